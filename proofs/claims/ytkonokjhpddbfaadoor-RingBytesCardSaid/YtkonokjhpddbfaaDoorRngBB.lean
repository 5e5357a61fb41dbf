/-
  The document's: a ring's signature as bytes: Lay (function 61).
-/
import Derived.Test.YtkonokjhpddbfaaDoorRngBA
import Derived.Test.YtkonokjhpddbfaaDoorGG
namespace Go.Proofs.YtkonokjhpddbfaaDoor
open Go.RowKit
set_option linter.unusedVariables false

set_option maxRecDepth 100000 in
set_option maxHeartbeats 4000000 in
theorem refringlay_any (S : List Nat) (key m : Nat) (A A0 : Option Addr) (c n0 c0 : Nat) (q : Nat → List Nat) (bs : List Nat) (w : World) (HSL : Hid (S.length = 1024)) (HSP : Hid (∀ x ∈ S, x < 256)) (hk : key < 4294967296) (hm : m ≤ 8) (HQ : Hid (∀ a, (q a).length = 32)) (HQP : Hid (∀ a, ∀ x ∈ q a, x < 256))
    (HY : Hid (WayR w (.slice A m c) q m)) (HT0 : Hid (Oct.Src w A0 c0 (ints bs))) (HN0 : Hid (bs.length = n0)) (hn0 : n0 ≤ 90000) (HBS : Hid (∀ x ∈ bs, x < 256)) :
    Calls Tryd.prog 61 #[.slice A0 n0 c0, .agg (rsg S key (.slice A m c)).toArray] w fun e w' => ∃ v', e = .returned v' ∧ Own w' w.heap.size v' (bs ++ rlayN S key q m) ∧ Below w.heap.size w w' := by
  have k1 : (key : Int) ≤ 4294967295 := by omega
  have m1 : (m : Int) ≤ 8 := by omega
  have hbl : bs.length ≤ 90000 := by rw [HN0.out]; exact hn0
  have hmw : IntKind.u8.wrap (m : Int) = (m : Int) := by rw [IntKind.wrap_u8]; omega
  have hkw : IntKind.u64.wrap (key : Int) = (key : Int) := by rw [IntKind.wrap_u64]; omega
  have HIS : Hid ((Tryd.prog.info? 51).map (·.size) = some (w8 S).length) := Lib.hid (by rw [w8_length, HSL.out]; exact info51)
  have HLL : Hid ((layN S).length = 1024) := Lib.hid (by
    have h := rlayN_length S 0 q 0 HSL.out HQ.out
    unfold rlayN at h
    simp [four, rows] at h
    omega)
  have HB2 : Hid (∀ x ∈ (bs ++ four key ++ [m]), x < 256) := Lib.hid (by
    intro x hx
    rcases List.mem_append.1 hx with hx | hx
    · rcases List.mem_append.1 hx with hx | hx
      · exact HBS.out x hx
      · exact four_lt key hk x hx
    · simp at hx; omega)
  have HNU : Hid (∀ X : World, Oct.Src X A0 c0 (ints bs) → Calls Tryd.prog 89 #[.slice A0 n0 c0, .int .u64 (key : Int), .int .i64 4] X fun e w' => ∃ v', e = .returned v' ∧ Oct.Own w' X.heap.size v' (ints (bs ++ four key)) ∧ Below X.heap.size X w') := Lib.hid fun X hs => by
    have h := Oct.num_any A0 c0 n0 (ints bs) (key : Int) 4 (by omega) X hs (by rw [ints_length]; exact HN0.out) (by omega) (by omega) (by omega)
    rw [numV_four key hk, ints_append] at h
    exact h
  go_enter Tryd.func61, Tryd.ntmps61
  go_upto_region 1 with fail
  have XV : Hid (Blk (w.alloc (.cells (rsg S key (.slice A m c)).toArray 99)) w.heap.size 99 (rsg S key (.slice A m c))) := Lib.hid (by
    have h := Blk.new w 99 (rsg S key (.slice A m c))
    exact h)
  have BV : Hid (Below w.heap.size w (w.alloc (.cells (rsg S key (.slice A m c)).toArray 99))) := Lib.hid ((Below.refl _ _).alloc (Nat.le_refl _) _)
  generalize (w.alloc (.cells (rsg S key (.slice A m c)).toArray 99)) = V at XV BV ⊢
  have hv : w.heap.size < V.heap.size := XV.out.lt
  have EV : Hid (Below V.heap.size V V) := Lib.hid (Below.refl _ _)
  have TV := Lib.hid (HT0.out.below BV.out)
  have hBz : Below V.heap.size V V.drew := below_drewN (Below.refl _ _) 1
  have XX0 : Hid (Blk V.drew w.heap.size 99 (rsg S key (.slice A m c))) := Lib.hid (XV.out.below hBz XV.out.lt)
  have EX0 : Hid (Below V.heap.size V V.drew) := Lib.hid (EV.out.trans (hBz.mono EV.out.size))
  have TX0 : Hid (Oct.Src V.drew A0 c0 (ints bs)) := Lib.hid (TV.out.below hBz)
  clear hBz
  refine wp_region_held_drew (S := fun w' => Blk w' w.heap.size 99 (rsg S key (.slice A m c))) (by kernel_rfl) (XX0.out) (fun hHeld => ?_)
  generalize V.drew = X0 at hHeld XX0 EX0 TX0 ⊢
  refine wpAnyH_take (i := 0) (v := .slice A0 n0 c0) rfl (by kernel_rfl) (by kernel_rfl) (by kernel_rfl) (fun _ _ _ h => h) (Or.inl ⟨by rfl, fun w _ => by rfl⟩) hHeld ?_
  show wpAnyH _ _ _ _ _ _ _ (Act.put _ (some 7) _) _
  simp only [Act.put, List.setIfInBounds_toArray, List.set_cons_zero, List.set_cons_succ]
  refine wpAnyH_take (i := 1) (v := .pointer (some ⟨w.heap.size, 1024, none⟩)) rfl (by kernel_rfl) (by kernel_rfl) (by kernel_rfl) (fun _ _ _ h => h) (Or.inl ⟨by rfl, by intro w' h; go_simp⟩) hHeld ?_
  show wpAnyH _ _ _ _ _ _ _ (Act.put _ (some 8) _) _
  simp only [Act.put, List.setIfInBounds_toArray, List.set_cons_zero, List.set_cons_succ]
  refine wpAnyH_take (i := 2) (v := .int .u32 (key : Int)) rfl (by kernel_rfl) (by kernel_rfl) (by kernel_rfl) (fun _ _ _ h => h) (Or.inl ⟨by rfl, by intro w' h; have q9 := Blk.cell h 1024; rw [rsg_key _ _ _ HSL.out] at q9; go_simp⟩) hHeld ?_
  show wpAnyH _ _ _ _ _ _ _ (Act.put _ (some 9) _) _
  simp only [Act.put, List.setIfInBounds_toArray, List.set_cons_zero, List.set_cons_succ]
  refine wpAnyH_take (i := 3) (v := .int .u64 (key : Int)) rfl (by kernel_rfl) (by kernel_rfl) (by kernel_rfl) (fun _ _ _ h => h) (Or.inl ⟨by rfl, by intro w' h; go_simp; first | done | exact hkw⟩) hHeld ?_
  show wpAnyH _ _ _ _ _ _ _ (Act.put _ (some 10) _) _
  simp only [Act.put, List.setIfInBounds_toArray, List.set_cons_zero, List.set_cons_succ]
  refine wpAnyH_take (i := 5) (v := .pointer (some ⟨w.heap.size, 1025, none⟩)) rfl (by kernel_rfl) (by kernel_rfl) (by kernel_rfl) (fun _ _ _ h => h) (Or.inl ⟨by rfl, by intro w' h; go_simp⟩) hHeld ?_
  show wpAnyH _ _ _ _ _ _ _ (Act.put _ (some 12) _) _
  simp only [Act.put, List.setIfInBounds_toArray, List.set_cons_zero, List.set_cons_succ]
  refine wpAnyH_take (i := 6) (v := .slice A m c) rfl (by kernel_rfl) (by kernel_rfl) (by kernel_rfl) (fun _ _ _ h => h) (Or.inl ⟨by rfl, by intro w' h; have q9 := Blk.cell h 1025; rw [rsg_way _ _ _ HSL.out] at q9; go_simp⟩) hHeld ?_
  show wpAnyH _ _ _ _ _ _ _ (Act.put _ (some 13) _) _
  simp only [Act.put, List.setIfInBounds_toArray, List.set_cons_zero, List.set_cons_succ]
  refine wpAnyH_take (i := 7) (v := .int .i64 (m : Int)) rfl (by kernel_rfl) (by kernel_rfl) (by kernel_rfl) (fun _ _ _ h => h) (Or.inl ⟨by rfl, by intro w' h; go_simp⟩) hHeld ?_
  show wpAnyH _ _ _ _ _ _ _ (Act.put _ (some 14) _) _
  simp only [Act.put, List.setIfInBounds_toArray, List.set_cons_zero, List.set_cons_succ]
  refine wpAnyH_take (i := 8) (v := .int .u8 (m : Int)) rfl (by kernel_rfl) (by kernel_rfl) (by kernel_rfl) (fun _ _ _ h => h) (Or.inl ⟨by rfl, by intro w' h; go_simp; first | done | exact hmw⟩) hHeld ?_
  show wpAnyH _ _ _ _ _ _ _ (Act.put _ (some 15) _) _
  simp only [Act.put, List.setIfInBounds_toArray, List.set_cons_zero, List.set_cons_succ]
  refine wpAnyH_ready (rs := [4, 9]) (by kernel_rfl) (by simp) ?_
  refine AllReadyH.cons rfl (fun K hK => ?_) (AllReadyH.cons rfl (fun K hK => ?_) AllReadyH.nil)
  · refine step_call rfl 89 #[.tmp 7, .tmp 10, .const (.int .i64 4)] #[30, 91, 3] rfl #[.slice A0 n0 c0, .int .u64 (key : Int), .int .i64 4] (by simp [Act.eval]) (by go_simp) (HNU.out X0 TX0.out) ?_
    rintro e X1 ⟨v11, rfl, hP, hB⟩
    have hP2 : Oct.Own X1 V.heap.size v11 (ints (bs ++ four key)) := own_mono hP EX0.out.size
    have XX1 : Hid (Blk X1 w.heap.size 99 (rsg S key (.slice A m c))) := Lib.hid (XX0.out.below hB XX0.out.lt)
    have EX1 : Hid (Below V.heap.size V X1) := Lib.hid (EX0.out.trans (hB.mono EX0.out.size))
    have TX1 : Hid (Oct.Src X1 A0 c0 (ints bs)) := Lib.hid (TX0.out.below hB)
    have PX1 : Hid (Oct.Own X1 V.heap.size v11 (ints (bs ++ four key))) := Lib.hid (hP2)
    clear XX0 EX0 TX0 hB hP hP2
    refine ⟨_, rfl, hK.out _ _ (XX1.out) (fun hHeld => ?_)⟩
    clear hK K
    show wpAnyH _ _ _ _ _ _ _ (Act.put _ (some 11) _) _
    simp only [Act.put, List.setIfInBounds_toArray, List.set_cons_zero, List.set_cons_succ]
    refine wpAnyH_ready (rs := [9]) (by kernel_rfl) (by simp) ?_
    refine AllReadyH.cons rfl (fun K hK => ?_) AllReadyH.nil
    refine Kt.step_lay rfl 30 1 #[(0, .tmp 15)] rfl #[(0, .int .u8 (m : Int))] (by simp [Act.eval]) (.slice (some ⟨X1.heap.size, 0, none⟩) 1 1) (X1.alloc (.cells #[.int .u8 (m : Int)] 5)) (by kernel_rfl) ?_
    have hB : Below X1.heap.size X1 (X1.alloc (.cells #[.int .u8 (m : Int)] 5)) := (Below.refl _ _).alloc (Nat.le_refl _) _
    have hM := Blk.new X1 5 (w8 [m])
    have hg0 := EX1.out.size
    change Blk (X1.alloc (.cells #[.int .u8 (m : Int)] 5)) _ _ _ at hM
    generalize X1.alloc (.cells #[.int .u8 (m : Int)] 5) = X2 at hB hM ⊢
    generalize X1.heap.size = g16 at hM hg0 ⊢
    have HG16 := Lib.hid hg0
    clear hg0
    have XX2 : Hid (Blk X2 w.heap.size 99 (rsg S key (.slice A m c))) := Lib.hid (XX1.out.below hB XX1.out.lt)
    have EX2 : Hid (Below V.heap.size V X2) := Lib.hid (EX1.out.trans (hB.mono EX1.out.size))
    have TX2 : Hid (Oct.Src X2 A0 c0 (ints bs)) := Lib.hid (TX1.out.below hB)
    have PX2 : Hid (Oct.Own X2 V.heap.size v11 (ints (bs ++ four key))) := Lib.hid (own_keepB PX1.out hB)
    have MX2 : Hid (Blk X2 g16 5 (w8 [m])) := Lib.hid (hM)
    clear XX1 EX1 TX1 PX1 hB hM
    refine hK.out _ _ (XX2.out) (fun hHeld => ?_)
    clear hK K
    show wpAnyH _ _ _ _ _ _ _ (Act.put _ (some 16) _) _
    simp only [Act.put, List.setIfInBounds_toArray, List.set_cons_zero, List.set_cons_succ]
    refine wpAnyH_ready (rs := [10]) (by kernel_rfl) (by simp) ?_
    refine AllReadyH.cons rfl (fun K hK => ?_) AllReadyH.nil
    refine step_app8 rfl (.tmp 11) (.tmp 16) rfl V.heap.size w.heap.size v11 (bs ++ four key) [m] rfl (Own.ofOct PX2.out) (some ⟨g16, 0, none⟩) 1 1 rfl rfl (Src.blk (rest := []) (by rw [List.append_nil]; exact MX2.out) (by have := HG16.out; omega) (by intro x hx; simp at hx; omega) 1 (by simp)) (by simp [four]; omega) EX2.out.size ?_
    intro v17 X3 hP hG
    have hE2 : Below V.heap.size X2 X3 := Oct.grown_below hG.out EX2.out.size (fun g hg => (World.ownsRow.lt PX2.out g hg).1)
    have EX3 := Lib.hid (EX2.out.trans hE2)
    have XX3 := Lib.hid (XX2.out.below hE2 hv)
    have PX3 := hP
    clear hP hG hE2 PX2 EX2 XX2 MX2 TX2 HG16
    refine hK.out _ _ (XX3.out) (fun hHeld => ?_)
    clear hK K
    show wpAnyH _ _ _ _ _ _ _ (Act.put _ (some 17) _) _
    simp only [Act.put, List.setIfInBounds_toArray, List.set_cons_zero, List.set_cons_succ]
    refine wpAnyH_take (i := 11) (v := v17) rfl (by kernel_rfl) (by kernel_rfl) (by kernel_rfl) (fun _ _ _ h => h) (Or.inl ⟨by rfl, fun w _ => by rfl⟩) hHeld ?_
    show wpAnyH _ _ _ _ _ _ _ (Act.put _ (some 5) _) _
    simp only [Act.put, List.setIfInBounds_toArray, List.set_cons_zero, List.set_cons_succ]
    refine wpAnyH_done (by kernel_rfl) ?_ _
    clear hHeld
    obtain ⟨A1, c1, hv1, hc1, hs1⟩ := Own.srcB (b := X3.heap.size) PX3.out (Nat.le_refl _) HB2.out
    subst hv1
    have HN1 : Hid ((bs ++ four key ++ [m]).length = bs.length + 5) := Lib.hid (by simp [four])
    have HS1 := Lib.hid hs1
    have HRS : Hid (X3.rangeAt w.heap.size 0 (w8 S)) := Lib.hid (rsg_sig XX3.out HSL.out)
    clear hs1
    go_upto_region 2 with fail
    rw [HN1.out]
    go_wp2_with (first | (refine wpList_load_mid rfl 51 (.tmp 19) rfl w.heap.size 0 rfl (w8 S) _ HRS.out Tryd.underlying51 rfl HIS.out ?_))
    clear HRS
    refine (rlay_any S A1 (bs.length + 5) c1 (bs ++ four key ++ [m]) X3 HSL HSP HS1 HN1 (by omega)).mono ?_
    rintro e R1 ⟨v2, rfl, hP, hB⟩
    have ER := Lib.hid (EX3.out.trans (hB.mono EX3.out.size))
    have XR := Lib.hid (XX3.out.below hB XX3.out.lt)
    have PR : Hid (Own R1 V.heap.size v2 ((bs ++ four key ++ [m] ++ layN S) ++ rows q 0)) := Lib.hid (by rw [rows_zero, List.append_nil]; exact Own.lower hP EX3.out.size)
    clear hB hP HS1 HN1 PX3 EX3 XX3
    go_wp2_with fail
    go_loopw [6, 5] (fun i t wr => ∃ (k : Nat), k ≤ m ∧ i = .int .i64 k ∧ Hid (Own wr V.heap.size t ((bs ++ four key ++ [m] ++ layN S) ++ rows q k)) ∧ Hid (Blk wr w.heap.size 99 (rsg S key (.slice A m c))) ∧ Hid (Below V.heap.size V wr)) (fun i _ _ => m - (intOf i).toNat)
    case atStart => exact ⟨0, Nat.zero_le _, rfl, PR, XR, ER⟩
    case round =>
      clear PR XR ER
      obtain ⟨k, hk, rfl, HP, HX, HE⟩ := hrel
      have c1025 : wr.cell? ⟨w.heap.size, 1025, none⟩ = some (.slice A m c) := by rw [HX.out.cell]; exact rsg_way _ _ _ HSL.out
      by_cases hlt : k < m
      · have k1 : (k : Int) < (m : Int) := by omega
        have k2 : (k : Int) ≤ 8 := by omega
        obtain ⟨A', c', hA, h2⟩ := HY.out
        injection hA with hA1 hA2 hA3
        subst hA1
        subst hA3
        obtain ⟨gw, o, rfl, hgw, hcell⟩ : ∃ g o, A = some ⟨g, o, none⟩ ∧ g < w.heap.size ∧ ∀ i, i < m → w.rangeAt g (o + i * 32) (w8 (q i)) := by
          rcases h2 with h2 | h2
          · omega
          · exact h2
        have HSQ : Hid (Src wr V.heap.size (some ⟨gw, o + k * 32, none⟩) 32 (q k)) := Lib.hid ⟨by rw [HQ.out]; omega, .inr ⟨gw, o + k * 32, rfl, by have := HE.out.size; omega, by omega, fun i hi => ((HE.out.cell (p := ⟨gw, o + k * 32 + i, none⟩) (by omega : gw < V.heap.size)).trans ((BV.out.cell (p := ⟨gw, o + k * 32 + i, none⟩) hgw).trans (hcell k hlt i _ (w8_get (q k) i hi))))⟩, HQP.out k⟩
        have HQL := Lib.hid (HQ.out k)
        have HRL : Hid ((rows q k).length = 32 * k) := Lib.hid (rows_length HQ.out k)
        have HM1 : Hid (((bs ++ four key ++ [m] ++ layN S) ++ rows q k).length + (q k).length ≤ 140737488355328) := Lib.hid (by rw [List.length_append, HRL.out, HQL.out, List.length_append, HLL.out]; simp [four]; omega)
        have hsl := slice29o gw (o + k * 32)
        clear hcell h2
        go_wp2_with (at_builtin; refine wpList_app rfl (.tmp 29) (.tmp 34) rfl V.heap.size V.heap.size _ _ (q k) rfl HP.out (some ⟨gw, o + k * 32, none⟩) 32 32 rfl HQL.out.symm HSQ.out HM1.out HE.out.size ?_)
        intro v3 w3 HO3 HG3 HL3
        have hE2 : Below V.heap.size wr w3 := Oct.grown_below HG3.out HE.out.size (fun g' hg' => (HP.out.base_ hg').1)
        have HE3 := Lib.hid (HE.out.trans hE2)
        have HX3 := Lib.hid (HX.out.below hE2 hv)
        have HP3 : Hid (Own w3 V.heap.size v3 ((bs ++ four key ++ [m] ++ layN S) ++ rows q (k + 1))) := Lib.hid (by
          have h := HO3.out
          rw [rows_succ]
          first | exact h | (rw [List.append_assoc] at h; exact h) | (simp only [List.append_assoc] at h ⊢; exact h))
        clear HG3 HL3 HO3 hE2 HE HX HP HSQ c1025 hsl
        go_wp2
        go_roundw
        case rel => exact ⟨k + 1, by omega, by go_num, HP3, HX3, HE3⟩
        case measure => simp [intOf]; omega
      · obtain rfl : k = m := by omega
        have HPw : Hid (Own wr w.heap.size u5 (bs ++ rlayN S key q k)) := Lib.hid (by
          have h := Own.lower HP.out (Nat.le_of_lt hv)
          unfold rlayN
          first | exact h | (simp only [List.append_assoc] at h ⊢; exact h))
        go_wp2
        go_ret
        exact ⟨_, rfl, HPw.out, BV.out.trans (HE.out.mono (by omega))⟩
  · refine Kt.step_lay rfl 30 1 #[(0, .tmp 15)] rfl #[(0, .int .u8 (m : Int))] (by simp [Act.eval]) (.slice (some ⟨X0.heap.size, 0, none⟩) 1 1) (X0.alloc (.cells #[.int .u8 (m : Int)] 5)) (by kernel_rfl) ?_
    have hB : Below X0.heap.size X0 (X0.alloc (.cells #[.int .u8 (m : Int)] 5)) := (Below.refl _ _).alloc (Nat.le_refl _) _
    have hM := Blk.new X0 5 (w8 [m])
    have hg0 := EX0.out.size
    change Blk (X0.alloc (.cells #[.int .u8 (m : Int)] 5)) _ _ _ at hM
    generalize X0.alloc (.cells #[.int .u8 (m : Int)] 5) = X1 at hB hM ⊢
    generalize X0.heap.size = g16 at hM hg0 ⊢
    have HG16 := Lib.hid hg0
    clear hg0
    have XX1 : Hid (Blk X1 w.heap.size 99 (rsg S key (.slice A m c))) := Lib.hid (XX0.out.below hB XX0.out.lt)
    have EX1 : Hid (Below V.heap.size V X1) := Lib.hid (EX0.out.trans (hB.mono EX0.out.size))
    have TX1 : Hid (Oct.Src X1 A0 c0 (ints bs)) := Lib.hid (TX0.out.below hB)
    have MX1 : Hid (Blk X1 g16 5 (w8 [m])) := Lib.hid (hM)
    clear XX0 EX0 TX0 hB hM
    refine hK.out _ _ (XX1.out) (fun hHeld => ?_)
    clear hK K
    show wpAnyH _ _ _ _ _ _ _ (Act.put _ (some 16) _) _
    simp only [Act.put, List.setIfInBounds_toArray, List.set_cons_zero, List.set_cons_succ]
    refine wpAnyH_ready (rs := [4]) (by kernel_rfl) (by simp) ?_
    refine AllReadyH.cons rfl (fun K hK => ?_) AllReadyH.nil
    refine step_call rfl 89 #[.tmp 7, .tmp 10, .const (.int .i64 4)] #[30, 91, 3] rfl #[.slice A0 n0 c0, .int .u64 (key : Int), .int .i64 4] (by simp [Act.eval]) (by go_simp) (HNU.out X1 TX1.out) ?_
    rintro e X2 ⟨v11, rfl, hP, hB⟩
    have hP2 : Oct.Own X2 V.heap.size v11 (ints (bs ++ four key)) := own_mono hP EX1.out.size
    have XX2 : Hid (Blk X2 w.heap.size 99 (rsg S key (.slice A m c))) := Lib.hid (XX1.out.below hB XX1.out.lt)
    have EX2 : Hid (Below V.heap.size V X2) := Lib.hid (EX1.out.trans (hB.mono EX1.out.size))
    have TX2 : Hid (Oct.Src X2 A0 c0 (ints bs)) := Lib.hid (TX1.out.below hB)
    have MX2 : Hid (Blk X2 g16 5 (w8 [m])) := Lib.hid (MX1.out.below hB MX1.out.lt)
    have PX2 : Hid (Oct.Own X2 V.heap.size v11 (ints (bs ++ four key))) := Lib.hid (hP2)
    clear XX1 EX1 TX1 MX1 hB hP hP2
    refine ⟨_, rfl, hK.out _ _ (XX2.out) (fun hHeld => ?_)⟩
    clear hK K
    show wpAnyH _ _ _ _ _ _ _ (Act.put _ (some 11) _) _
    simp only [Act.put, List.setIfInBounds_toArray, List.set_cons_zero, List.set_cons_succ]
    refine wpAnyH_ready (rs := [10]) (by kernel_rfl) (by simp) ?_
    refine AllReadyH.cons rfl (fun K hK => ?_) AllReadyH.nil
    refine step_app8 rfl (.tmp 11) (.tmp 16) rfl V.heap.size w.heap.size v11 (bs ++ four key) [m] rfl (Own.ofOct PX2.out) (some ⟨g16, 0, none⟩) 1 1 rfl rfl (Src.blk (rest := []) (by rw [List.append_nil]; exact MX2.out) (by have := HG16.out; omega) (by intro x hx; simp at hx; omega) 1 (by simp)) (by simp [four]; omega) EX2.out.size ?_
    intro v17 X3 hP hG
    have hE2 : Below V.heap.size X2 X3 := Oct.grown_below hG.out EX2.out.size (fun g hg => (World.ownsRow.lt PX2.out g hg).1)
    have EX3 := Lib.hid (EX2.out.trans hE2)
    have XX3 := Lib.hid (XX2.out.below hE2 hv)
    have PX3 := hP
    clear hP hG hE2 PX2 EX2 XX2 MX2 TX2 HG16
    refine hK.out _ _ (XX3.out) (fun hHeld => ?_)
    clear hK K
    show wpAnyH _ _ _ _ _ _ _ (Act.put _ (some 17) _) _
    simp only [Act.put, List.setIfInBounds_toArray, List.set_cons_zero, List.set_cons_succ]
    refine wpAnyH_take (i := 11) (v := v17) rfl (by kernel_rfl) (by kernel_rfl) (by kernel_rfl) (fun _ _ _ h => h) (Or.inl ⟨by rfl, fun w _ => by rfl⟩) hHeld ?_
    show wpAnyH _ _ _ _ _ _ _ (Act.put _ (some 5) _) _
    simp only [Act.put, List.setIfInBounds_toArray, List.set_cons_zero, List.set_cons_succ]
    refine wpAnyH_done (by kernel_rfl) ?_ _
    clear hHeld
    obtain ⟨A1, c1, hv1, hc1, hs1⟩ := Own.srcB (b := X3.heap.size) PX3.out (Nat.le_refl _) HB2.out
    subst hv1
    have HN1 : Hid ((bs ++ four key ++ [m]).length = bs.length + 5) := Lib.hid (by simp [four])
    have HS1 := Lib.hid hs1
    have HRS : Hid (X3.rangeAt w.heap.size 0 (w8 S)) := Lib.hid (rsg_sig XX3.out HSL.out)
    clear hs1
    go_upto_region 2 with fail
    rw [HN1.out]
    go_wp2_with (first | (refine wpList_load_mid rfl 51 (.tmp 19) rfl w.heap.size 0 rfl (w8 S) _ HRS.out Tryd.underlying51 rfl HIS.out ?_))
    clear HRS
    refine (rlay_any S A1 (bs.length + 5) c1 (bs ++ four key ++ [m]) X3 HSL HSP HS1 HN1 (by omega)).mono ?_
    rintro e R1 ⟨v2, rfl, hP, hB⟩
    have ER := Lib.hid (EX3.out.trans (hB.mono EX3.out.size))
    have XR := Lib.hid (XX3.out.below hB XX3.out.lt)
    have PR : Hid (Own R1 V.heap.size v2 ((bs ++ four key ++ [m] ++ layN S) ++ rows q 0)) := Lib.hid (by rw [rows_zero, List.append_nil]; exact Own.lower hP EX3.out.size)
    clear hB hP HS1 HN1 PX3 EX3 XX3
    go_wp2_with fail
    go_loopw [6, 5] (fun i t wr => ∃ (k : Nat), k ≤ m ∧ i = .int .i64 k ∧ Hid (Own wr V.heap.size t ((bs ++ four key ++ [m] ++ layN S) ++ rows q k)) ∧ Hid (Blk wr w.heap.size 99 (rsg S key (.slice A m c))) ∧ Hid (Below V.heap.size V wr)) (fun i _ _ => m - (intOf i).toNat)
    case atStart => exact ⟨0, Nat.zero_le _, rfl, PR, XR, ER⟩
    case round =>
      clear PR XR ER
      obtain ⟨k, hk, rfl, HP, HX, HE⟩ := hrel
      have c1025 : wr.cell? ⟨w.heap.size, 1025, none⟩ = some (.slice A m c) := by rw [HX.out.cell]; exact rsg_way _ _ _ HSL.out
      by_cases hlt : k < m
      · have k1 : (k : Int) < (m : Int) := by omega
        have k2 : (k : Int) ≤ 8 := by omega
        obtain ⟨A', c', hA, h2⟩ := HY.out
        injection hA with hA1 hA2 hA3
        subst hA1
        subst hA3
        obtain ⟨gw, o, rfl, hgw, hcell⟩ : ∃ g o, A = some ⟨g, o, none⟩ ∧ g < w.heap.size ∧ ∀ i, i < m → w.rangeAt g (o + i * 32) (w8 (q i)) := by
          rcases h2 with h2 | h2
          · omega
          · exact h2
        have HSQ : Hid (Src wr V.heap.size (some ⟨gw, o + k * 32, none⟩) 32 (q k)) := Lib.hid ⟨by rw [HQ.out]; omega, .inr ⟨gw, o + k * 32, rfl, by have := HE.out.size; omega, by omega, fun i hi => ((HE.out.cell (p := ⟨gw, o + k * 32 + i, none⟩) (by omega : gw < V.heap.size)).trans ((BV.out.cell (p := ⟨gw, o + k * 32 + i, none⟩) hgw).trans (hcell k hlt i _ (w8_get (q k) i hi))))⟩, HQP.out k⟩
        have HQL := Lib.hid (HQ.out k)
        have HRL : Hid ((rows q k).length = 32 * k) := Lib.hid (rows_length HQ.out k)
        have HM1 : Hid (((bs ++ four key ++ [m] ++ layN S) ++ rows q k).length + (q k).length ≤ 140737488355328) := Lib.hid (by rw [List.length_append, HRL.out, HQL.out, List.length_append, HLL.out]; simp [four]; omega)
        have hsl := slice29o gw (o + k * 32)
        clear hcell h2
        go_wp2_with (at_builtin; refine wpList_app rfl (.tmp 29) (.tmp 34) rfl V.heap.size V.heap.size _ _ (q k) rfl HP.out (some ⟨gw, o + k * 32, none⟩) 32 32 rfl HQL.out.symm HSQ.out HM1.out HE.out.size ?_)
        intro v3 w3 HO3 HG3 HL3
        have hE2 : Below V.heap.size wr w3 := Oct.grown_below HG3.out HE.out.size (fun g' hg' => (HP.out.base_ hg').1)
        have HE3 := Lib.hid (HE.out.trans hE2)
        have HX3 := Lib.hid (HX.out.below hE2 hv)
        have HP3 : Hid (Own w3 V.heap.size v3 ((bs ++ four key ++ [m] ++ layN S) ++ rows q (k + 1))) := Lib.hid (by
          have h := HO3.out
          rw [rows_succ]
          first | exact h | (rw [List.append_assoc] at h; exact h) | (simp only [List.append_assoc] at h ⊢; exact h))
        clear HG3 HL3 HO3 hE2 HE HX HP HSQ c1025 hsl
        go_wp2
        go_roundw
        case rel => exact ⟨k + 1, by omega, by go_num, HP3, HX3, HE3⟩
        case measure => simp [intOf]; omega
      · obtain rfl : k = m := by omega
        have HPw : Hid (Own wr w.heap.size u5 (bs ++ rlayN S key q k)) := Lib.hid (by
          have h := Own.lower HP.out (Nat.le_of_lt hv)
          unfold rlayN
          first | exact h | (simp only [List.append_assoc] at h ⊢; exact h))
        go_wp2
        go_ret
        exact ⟨_, rfl, HPw.out, BV.out.trans (HE.out.mono (by omega))⟩
end Go.Proofs.YtkonokjhpddbfaaDoor
