/-
  A ring's signatures there and back: law05.From (function 53), law05.To (55); nothing that was there is written.
-/
import Derived.Test.YtkonokjhpddbfaaDoorRngL
namespace Go.Proofs.YtkonokjhpddbfaaDoor
open Go.RowKit
set_option linter.unusedVariables false


set_option maxRecDepth 100000 in
set_option maxHeartbeats 4000000 in
theorem rto5_any (S : List Nat) (key m : Nat) (A : Option Addr) (c : Nat) (f : Nat → List Nat) (w : World) (HSL : Hid (S.length = 1024)) (HF : Hid (∀ a, (f a).length = 32)) (HY : Hid (WayR w (.slice A m c) f m)) (hm : m ≤ 1000000) :
    Calls Tryd.prog 55 #[.agg (rsg S key (.slice A m c)).toArray] w fun e w' => ∃ v, e = .returned (.agg (rsg S key v).toArray) ∧ WayR w' v f m ∧ (∃ a c, v = .slice a m c ∧ m ≤ c ∧ c ≤ 9223372036854775807) ∧ Below w.heap.size w w' := by
  have m1 : (m : Int) ≤ 1000000 := by omega
  have HIS : Hid ((Tryd.prog.info? 51).map (·.size) = some (w8 S).length) := Lib.hid (by rw [w8_length, HSL.out]; exact info51)
  have HI0 : Hid ((Tryd.prog.info? 94).map (·.size) = some (rsg S key (.slice none 0 0)).length) := Lib.hid (by rw [rsg_length _ _ _ HSL.out]; exact info94)
  have HL0 : Hid ((rsg (List.replicate 1024 0) 0 (.slice none 0 0)).length = (rsg S key (.slice none 0 0)).length) := Lib.hid (by rw [rsg_length _ _ _ HSL.out, rsg_length _ _ _ (by simp)])
  have HO0 := Lib.hid (all_oneCell_toArray (rsg_one S key (.slice none 0 0) rfl))
  go_enter Tryd.func55, Tryd.ntmps55
  go_upto_region 1 with fail
  have P : Hid (Blk ((w.alloc (.cells (rsg S key (.slice A m c)).toArray 99)).alloc (.cells Tryd.zeroCells94 94)) w.heap.size 99 (rsg S key (.slice A m c))) := Lib.hid (by
    have h := (Blk.new w 99 (rsg S key (.slice A m c))).alloc (.cells Tryd.zeroCells94 94)
    exact h)
  have Q : Hid (Blk ((w.alloc (.cells (rsg S key (.slice A m c)).toArray 99)).alloc (.cells Tryd.zeroCells94 94)) (w.heap.size + 1) 94 (rsg (List.replicate 1024 0) 0 (.slice none 0 0))) := Lib.hid (by
    have h := Blk.new (w.alloc (.cells (rsg S key (.slice A m c)).toArray 99)) 94 (rsg (List.replicate 1024 0) 0 (.slice none 0 0))
    rw [zc94, World.size_alloc] at h
    exact h)
  have B : Hid (Below w.heap.size w ((w.alloc (.cells (rsg S key (.slice A m c)).toArray 99)).alloc (.cells Tryd.zeroCells94 94))) := Lib.hid (((Below.refl _ _).alloc (Nat.le_refl _) _).alloc (by simp) _)
  generalize ((w.alloc (.cells (rsg S key (.slice A m c)).toArray 99)).alloc (.cells Tryd.zeroCells94 94)) = V at P Q B ⊢
  have hBz : Below V.heap.size V V.drew := below_drewN (Below.refl _ _) 1
  have PX0 : Hid (Blk V.drew w.heap.size 99 (rsg S key (.slice A m c))) := Lib.hid (P.out.below hBz P.out.lt)
  have QX0 : Hid (Blk V.drew (w.heap.size + 1) 94 (rsg (List.replicate 1024 0) 0 (.slice none 0 0))) := Lib.hid (Q.out.below hBz Q.out.lt)
  have BX0 : Hid (Below w.heap.size w V.drew) := Lib.hid (B.out.trans (hBz.mono B.out.size))
  clear hBz
  refine wp_region_held_drew (S := fun w' => Blk w' w.heap.size 99 (rsg S key (.slice A m c))) (by kernel_rfl) (PX0.out) (fun hHeld => ?_)
  generalize V.drew = X0 at hHeld PX0 QX0 BX0 ⊢
  refine wpAnyH_take (i := 0) (v := .pointer (some ⟨w.heap.size, 0, none⟩)) rfl (by kernel_rfl) (by kernel_rfl) (by kernel_rfl) (fun _ _ _ h => h) (Or.inl ⟨by rfl, by intro w' h; go_simp⟩) hHeld ?_
  show wpAnyH _ _ _ _ _ _ _ (Act.put _ (some 6) _) _
  simp only [Act.put, List.setIfInBounds_toArray, List.set_cons_zero, List.set_cons_succ]
  refine wpAnyH_take (i := 1) (v := .agg (w8 S).toArray) rfl (by kernel_rfl) (by kernel_rfl) (by kernel_rfl) (fun _ _ _ h => h) (yieldsIf_load_mid rfl 51 (.tmp 6) rfl w.heap.size 0 rfl (w8 S) _ (fun w' h => rsg_sig h HSL.out) Tryd.underlying51 rfl HIS.out) hHeld ?_
  show wpAnyH _ _ _ _ _ _ _ (Act.put _ (some 7) _) _
  simp only [Act.put, List.setIfInBounds_toArray, List.set_cons_zero, List.set_cons_succ]
  refine wpAnyH_take (i := 3) (v := .pointer (some ⟨w.heap.size, 1024, none⟩)) rfl (by kernel_rfl) (by kernel_rfl) (by kernel_rfl) (fun _ _ _ h => h) (Or.inl ⟨by rfl, by intro w' h; go_simp⟩) hHeld ?_
  show wpAnyH _ _ _ _ _ _ _ (Act.put _ (some 9) _) _
  simp only [Act.put, List.setIfInBounds_toArray, List.set_cons_zero, List.set_cons_succ]
  refine wpAnyH_take (i := 4) (v := .int .u32 (key : Int)) rfl (by kernel_rfl) (by kernel_rfl) (by kernel_rfl) (fun _ _ _ h => h) (Or.inl ⟨by rfl, by intro w' h; have q := Blk.cell h 1024; rw [rsg_key _ _ _ HSL.out] at q; go_simp⟩) hHeld ?_
  show wpAnyH _ _ _ _ _ _ _ (Act.put _ (some 10) _) _
  simp only [Act.put, List.setIfInBounds_toArray, List.set_cons_zero, List.set_cons_succ]
  refine wpAnyH_ready (rs := [2, 6]) (by kernel_rfl) (by simp) ?_
  refine AllReadyH.cons rfl (fun K hK => ?_) (AllReadyH.cons rfl (fun K hK => ?_) AllReadyH.nil)
  · refine step_call rfl 27 #[.tmp 7] #[51] rfl #[.agg (w8 S).toArray] (by simp [Act.eval]) (by go_simp) (to_any S X0 HSL) ?_
    rintro e X1 ⟨rfl, hB⟩
    have PX1 : Hid (Blk X1 w.heap.size 99 (rsg S key (.slice A m c))) := Lib.hid (PX0.out.below hB PX0.out.lt)
    have QX1 : Hid (Blk X1 (w.heap.size + 1) 94 (rsg (List.replicate 1024 0) 0 (.slice none 0 0))) := Lib.hid (QX0.out.below hB QX0.out.lt)
    have BX1 : Hid (Below w.heap.size w X1) := Lib.hid (BX0.out.trans (hB.mono BX0.out.size))
    clear PX0 QX0 BX0 hB
    refine ⟨_, rfl, hK.out _ _ (PX1.out) (fun hHeld => ?_)⟩
    clear hK K
    show wpAnyH _ _ _ _ _ _ _ (Act.put _ (some 8) _) _
    simp only [Act.put, List.setIfInBounds_toArray, List.set_cons_zero, List.set_cons_succ]
    refine wpAnyH_take (i := 5) (v := .agg (rsg S key (.slice none 0 0)).toArray) rfl (by kernel_rfl) (by kernel_rfl) (by kernel_rfl) (fun _ _ _ h => h) (Or.inl ⟨by rfl, fun w' h => run_build_op rfl (by simp [Act.eval]) (build94s S key HSL.out w')⟩) hHeld ?_
    show wpAnyH _ _ _ _ _ _ _ (Act.put _ (some 11) _) _
    simp only [Act.put, List.setIfInBounds_toArray, List.set_cons_zero, List.set_cons_succ]
    refine wpAnyH_ready (rs := [6]) (by kernel_rfl) (by simp) ?_
    refine AllReadyH.cons rfl (fun K hK => ?_) AllReadyH.nil
    refine Kt.step_new rfl 94 rfl Tryd.zeroCells94 (.pointer (some ⟨X1.heap.size, 0, none⟩)) (by kernel_rfl) ?_
    have hB : Below X1.heap.size X1 (X1.alloc (.cells Tryd.zeroCells94 94)) := (Below.refl _ _).alloc (Nat.le_refl _) _
    have hZ : Blk (X1.alloc (.cells Tryd.zeroCells94 94)) X1.heap.size 94 (rsg (List.replicate 1024 0) 0 (.slice none 0 0)) := by
      have h := Blk.new X1 94 (rsg (List.replicate 1024 0) 0 (.slice none 0 0))
      rw [zc94] at h
      exact h
    generalize X1.alloc (.cells Tryd.zeroCells94 94) = X2 at hB hZ ⊢
    obtain ⟨g3, hg3⟩ : ∃ q, X1.heap.size = q := ⟨_, rfl⟩
    have hg3b : w.heap.size + 1 < g3 := by have := QX1.out.lt; omega
    rw [hg3] at hZ ⊢
    clear hg3
    have PX2 : Hid (Blk X2 w.heap.size 99 (rsg S key (.slice A m c))) := Lib.hid (PX1.out.below hB PX1.out.lt)
    have QX2 : Hid (Blk X2 (w.heap.size + 1) 94 (rsg (List.replicate 1024 0) 0 (.slice none 0 0))) := Lib.hid (QX1.out.below hB QX1.out.lt)
    have BX2 : Hid (Below w.heap.size w X2) := Lib.hid (BX1.out.trans (hB.mono BX1.out.size))
    have ZX2 : Hid (Blk X2 g3 94 (rsg (List.replicate 1024 0) 0 (.slice none 0 0))) := Lib.hid (hZ)
    clear PX1 QX1 BX1 hB hZ
    refine hK.out _ _ (PX2.out) (fun hHeld => ?_)
    clear hK K
    show wpAnyH _ _ _ _ _ _ _ (Act.put _ (some 3) _) _
    simp only [Act.put, List.setIfInBounds_toArray, List.set_cons_zero, List.set_cons_succ]
    refine wpAnyH_ready (rs := [7]) (by kernel_rfl) (by simp) ?_
    refine AllReadyH.cons rfl (fun K hK => ?_) AllReadyH.nil
    refine Kt.step_store rfl 94 (.tmp 3) (.tmp 11) rfl g3 (rsg S key (.slice none 0 0)) rfl rfl 94 _ ZX2.out HI0.out HL0.out HO0.out ?_
    intro X3 hZ hO
    have hnP : some w.heap.size ≠ some g3 := fun e => by injection e with e; omega
    have hnQ : some (w.heap.size + 1) ≠ some g3 := fun e => by injection e with e; omega
    have PX3 : Hid (Blk X3 w.heap.size 99 (rsg S key (.slice A m c))) := Lib.hid (PX2.out.grown hO hnP)
    have QX3 : Hid (Blk X3 (w.heap.size + 1) 94 (rsg (List.replicate 1024 0) 0 (.slice none 0 0))) := Lib.hid (QX2.out.grown hO hnQ)
    have BX3 : Hid (Below w.heap.size w X3) := Lib.hid (BX2.out.trans (only_up hO (by omega) BX2.out.size))
    have ZX3 : Hid (Blk X3 g3 94 (rsg S key (.slice none 0 0))) := Lib.hid (hZ)
    clear PX2 QX2 BX2 hZ hO hnP hnQ
    refine hK.out _ _ (PX3.out) (fun hHeld => ?_)
    clear hK K
    show wpAnyH _ _ _ _ _ _ _ (Act.put _ none _) _
    simp only [Act.put]
    refine wpAnyH_done (by kernel_rfl) ?_ _
    clear hHeld
    have hx1 : g3 < X3.heap.size := ZX3.out.lt
    have c1025 : X3.cell? ⟨w.heap.size, 1025, none⟩ = some (.slice A m c) := by rw [PX3.out.cell]; exact rsg_way _ _ _ HSL.out
    go_wp2_with fail
    clear c1025
    go_loopw [15, 5] (fun i _ wr => ∃ (k : Nat) (v : Value), k ≤ m ∧ i = .int .i64 k ∧ Hid (wr.ownsRow w.heap.size 36 32 v k (w8 (rows f k))) ∧ Hid (Blk wr g3 94 (rsg S key v)) ∧ Hid (Blk wr (w.heap.size + 1) 94 (rsg (List.replicate 1024 0) 0 (.slice none 0 0))) ∧ Hid (Below w.heap.size w wr)) (fun i _ _ => m - (intOf i).toNat)
    case atStart => exact ⟨0, .slice none 0 0, Nat.zero_le _, rfl, Lib.hid (World.ownsRow_nil _ _ _ _), ZX3, QX3, BX3⟩
    case round =>
      clear PX3 QX3 ZX3 BX3
      obtain ⟨k, v, hk, rfl, HO, HZ, HQ, HB⟩ := hrel
      by_cases hlt : k < m
      · have k1 : (k : Int) < (m : Int) := by omega
        obtain ⟨A', c', hA, h2⟩ := HY.out
        injection hA with hA1 hA2 hA3
        subst hA1
        subst hA3
        obtain ⟨gw, o, rfl, hgw, hcell⟩ : ∃ g o, A = some ⟨g, o, none⟩ ∧ g < w.heap.size ∧ ∀ i, i < m → w.rangeAt g (o + i * 32) (w8 (f i)) := by
          rcases h2 with h2 | h2
          · omega
          · exact h2
        have HFK : Hid ((w8 (f k)).length = 32) := Lib.hid (by rw [w8_length, HF.out])
        have HFR : Hid (wr.rangeAt gw (o + k * 32) (w8 (f k))) := Lib.hid fun j u hu => (HB.out.cell (p := ⟨gw, o + k * 32 + j, none⟩) hgw).trans (hcell k hlt j u hu)
        have HI2 : Hid ((Tryd.prog.info? 29).map (·.size) = some (w8 (f k)).length) := Lib.hid (by rw [HFK.out]; exact info29)
        have HI3 : Hid ((Tryd.prog.info? 29).map (·.size) = some (w8 (f k)).toArray.size) := Lib.hid (by rw [List.size_toArray]; exact HI2.out)
        have HZ3 : Hid (zsum.size = (w8 (f k)).toArray.size) := Lib.hid (Eq.trans (b := 32) rfl (by rw [List.size_toArray, HFK.out]))
        have HO3 := Lib.hid (all_oneCell_toArray (w8_one (f k)))
        have HL3 := Lib.hid (heap_alloc_last wr (.cells zsum 29))
        have hwr : g3 < wr.heap.size := HZ.out.lt
        clear hcell h2
        go_upto_region 5 with (first | (refine wpList_load_mid rfl 29 (.tmp 17) rfl gw (o + k * 32) rfl (w8 (f k)) _ HFR.out Tryd.underlying29 rfl HI2.out ?_) | (refine wpList_store_row rfl 29 (.tmp 5) (.tmp 18) rfl wr.heap.size (w8 (f k)).toArray rfl rfl 29 _ HL3.out HI3.out HZ3.out HO3.out ?_; rw [World.setRow_alloc_new]))
        have hB : Below wr.heap.size wr (wr.alloc (.cells (w8 (f k)).toArray 29)) := (Below.refl _ _).alloc (Nat.le_refl _) _
        have HD : Hid (Blk (wr.alloc (.cells (w8 (f k)).toArray 29)) wr.heap.size 29 (w8 (f k))) := Lib.hid (Blk.new _ _ _)
        have HO1 := Lib.hid (HO.out.alloc (.cells (w8 (f k)).toArray 29))
        have HZ1 := Lib.hid (HZ.out.below hB HZ.out.lt)
        have HQ1 := Lib.hid (HQ.out.below hB HQ.out.lt)
        have HB1 := Lib.hid (HB.out.trans (hB.mono HB.out.size))
        clear hB HO HZ HQ HB HL3 HFR
        generalize wr.alloc (.cells (w8 (f k)).toArray 29) = D at HD HO1 HZ1 HQ1 HB1 ⊢
        generalize wr.heap.size = g5 at HD ⊢
        have HDR := Lib.hid HD.out.all
        have hd1 : g3 < D.heap.size := HZ1.out.lt
        have hd2 : w.heap.size + 1 < D.heap.size := HQ1.out.lt
        have c1025 : D.cell? ⟨g3, 1025, none⟩ = some v := by rw [HZ1.out.cell]; exact rsg_way _ _ _ HSL.out
        have hl1 := Blk.new D 36 (w8 (f k))
        have hB1 : Below D.heap.size D (D.alloc (.cells (w8 (f k)).toArray 36)) := (Below.refl _ _).alloc (Nat.le_refl _) _
        obtain ⟨i0, hi, hz0, hz1, hz2⟩ := info_parts info36f
        obtain ⟨v', W', hrun, hown, hgrow, _, hblk⟩ := run_append_own_at (P := Tryd.prog) (D.alloc (.cells (w8 (f k)).toArray 36)) w.heap.size 92 0 36 i0 (.agg zsum) 32 32 Tryd.underlying92 hi hz0 hz1 hz2 rfl (by decide) v k (w8 (rows f k)) (HO1.out.alloc _) ⟨D.heap.size, 0, none⟩ 1 1 (w8 (f k)) (by rw [HFK.out])
          (fun j u hu => by rw [Go.WideShapes.add_plain, Nat.zero_add, hl1.cell]; exact hu) (w8_one _) (by unfold maxLen; omega) (by omega) (by have := HB1.out.size; simp; omega)
        obtain ⟨gx, cx, hv2⟩ : ∃ gx cx, v' = .slice (some ⟨gx, 0, none⟩) (k + 1) cx := by
          rcases hown.2 with ⟨_, h0⟩ | ⟨gx, cx, _, h1, _⟩
          · omega
          · exact ⟨gx, cx, h1⟩
        subst hv2
        have HRUN : Hid (∀ ty, (Builtin.append_ #[92, 92] ty #[v, .slice (some ⟨D.heap.size, 0, none⟩) 1 1]).run Tryd.prog (D.alloc (.cells (w8 (f k)).toArray 36)) = .ok (.slice (some ⟨gx, 0, none⟩) (k + 1) cx) W') := Lib.hid fun ty => hrun
        have hne : ∀ (x : Nat) (cs : List Value), Blk D x 94 cs → Blk W' x 94 cs := fun x cs hx => (hx.alloc _).grown hgrow (by
          intro e
          obtain ⟨cs', hb⟩ := own_block (HO1.out.alloc (.cells (w8 (f k)).toArray 36)) e.symm
          exact Blk.ne_ (hx.alloc _) hb (by decide) rfl)
        have HZ2 := Lib.hid (hne _ _ HZ1.out)
        have HQ2 := Lib.hid (hne _ _ HQ1.out)
        have HO2 : Hid (W'.ownsRow w.heap.size 36 32 (.slice (some ⟨gx, 0, none⟩) (k + 1) cx) (k + 1) (w8 (rows f (k + 1)))) := Lib.hid (by rw [rows_succ, ← w8_append]; exact hown)
        have HB2 : Hid (Below w.heap.size w W') := Lib.hid ((HB1.out.trans (hB1.mono HB1.out.size)).grown hgrow (by have := HB1.out.size; simp; omega) (fun q hq => ((HO1.out.alloc (.cells (w8 (f k)).toArray 36)).lt q hq).1))
        have d1025 : W'.cell? ⟨g3, 1025, none⟩ = some v := by rw [HZ2.out.cell]; exact rsg_way _ _ _ HSL.out
        have e1025 : W'.frozen? ⟨g3, 1025, none⟩ = false := HZ2.out.frozen _
        have HLAY := Lib.hid (lay92 (f k) (HF.out k) D)
        clear hrun hown hgrow hblk hne hl1 hB1 HO1 HZ1 HQ1 HB1
        go_upto_region 6 with (first | (refine wpList_load_mid rfl 29 (.tmp 5) rfl g5 0 rfl (w8 (f k)) _ HDR.out Tryd.underlying29 rfl HI2.out ?_) | (refine wpList_lay_v rfl 92 1 #[(0, .tmp 21)] rfl #[(0, .agg (w8 (f k)).toArray)] (by simp [Act.eval, Act.put]) _ _ HLAY.out ?_) | (at_builtin; refine wpList_append_run_ rfl (.tmp 20) (.tmp 22) 92 92 rfl (.slice (some ⟨gx, 0, none⟩) (k + 1) cx) W' (fun ty => HRUN.out ty) ?_))
        have hOs : W'.grownBy (W'.setCell ⟨g3, 1025, none⟩ (.slice (some ⟨gx, 0, none⟩) (k + 1) cx)) (some g3) := only_setCell (only_refl _ _) (.inl rfl) _
        have HZs : Hid (Blk (W'.setCell ⟨g3, 1025, none⟩ (.slice (some ⟨gx, 0, none⟩) (k + 1) cx)) g3 94 (rsg S key (.slice (some ⟨gx, 0, none⟩) (k + 1) cx))) := Lib.hid (by
          have h := HZ2.out.set_ 1025 (.slice (some ⟨gx, 0, none⟩) (k + 1) cx)
          rw [rsg_set _ _ _ _ HSL.out] at h
          exact h)
        have HQs := Lib.hid (HQ2.out.grown hOs (fun e => by injection e with e; omega))
        have HOs := Lib.hid (HO2.out.kept hOs (by
          right
          intro e
          obtain ⟨cs', hb⟩ := own_block HO2.out e
          exact Blk.ne_ HZ2.out hb (by decide) rfl))
        have HBs := Lib.hid (HB2.out.trans (only_up hOs (by omega) HB2.out.size))
        clear hOs HZ2 HQ2 HO2 HB2 d1025 e1025 c1025 HRUN HLAY HD HDR
        generalize W'.setCell ⟨g3, 1025, none⟩ (.slice (some ⟨gx, 0, none⟩) (k + 1) cx) = E at HZs HQs HOs HBs ⊢
        go_wp2
        go_roundw
        case rel => exact ⟨k + 1, _, by omega, by go_num, HOs, HZs, HQs, HBs⟩
        case measure => simp [intOf]; omega
      · obtain rfl : k = m := by omega
        have HV1 : Hid (∃ a n c, v = .slice a n c) := Lib.hid (by
          rcases HO.out.2 with ⟨h1, _⟩ | ⟨g, cap, cur, h1, _⟩
          · exact ⟨none, 0, 0, h1⟩
          · exact ⟨_, _, _, h1⟩)
        have HVB : Hid (∃ a c, v = .slice a k c ∧ k ≤ c ∧ c ≤ 9223372036854775807) := Lib.hid (by
          rcases HO.out.2 with ⟨h1, h2⟩ | ⟨g, cap, cur, h1, _, _, h2, h3, _⟩
          · exact ⟨none, 0, by rw [h1, h2], by omega, by omega⟩
          · exact ⟨_, cap, h1, h2, by unfold maxLen at h3; exact h3⟩)
        have HVO : Hid (v.oneCell' = true) := Lib.hid (by
          obtain ⟨a, n, c, h1⟩ := HV1.out
          rw [h1]; rfl)
        have HZR := Lib.hid HZ.out.all
        have HI4 : Hid ((Tryd.prog.info? 94).map (·.size) = some (rsg S key v).length) := Lib.hid (by rw [rsg_length _ _ _ HSL.out]; exact info94)
        have HI5 : Hid ((Tryd.prog.info? 94).map (·.size) = some (rsg S key v).toArray.size) := Lib.hid (by rw [List.size_toArray]; exact HI4.out)
        have HL5 : Hid ((rsg (List.replicate 1024 0) 0 (.slice none 0 0)).toArray.size = (rsg S key v).toArray.size) := Lib.hid (by rw [List.size_toArray, List.size_toArray, rsg_length _ _ _ (by simp), rsg_length _ _ _ HSL.out])
        have HO5 := Lib.hid (all_oneCell_toArray (rsg_one S key v HVO.out))
        have HW5 := Lib.hid (wayR_own (f := f) HF.out HO.out)
        have hO : wr.grownBy (wr.setRow (w.heap.size + 1) (rsg S key v).toArray) (some (w.heap.size + 1)) := only_setRow (only_refl _ _) _
        have HW6 : Hid (WayR (wr.setRow (w.heap.size + 1) (rsg S key v).toArray) v f k) := Lib.hid (wayR_own (f := f) HF.out (HO.out.kept hO (by
          right
          intro e
          obtain ⟨cs', hb⟩ := own_block HO.out e
          exact Blk.ne_ HQ.out hb (by decide) rfl)))
        go_wp2_with (first | (refine wpList_load_mid rfl 94 (.tmp 3) rfl g3 0 rfl (rsg S key v) _ HZR.out Tryd.underlying94 rfl HI4.out ?_) | (refine wpList_store_row rfl 94 (.tmp 2) (.tmp 26) rfl (w.heap.size + 1) (rsg S key v).toArray rfl rfl 94 _ HQ.out HI5.out HL5.out HO5.out ?_))
        exact bodyPost_ret (v := .agg (rsg S key v).toArray) (results_cell_row Tryd.results55 _ _ (w.heap.size + 1) 94 (rsg S key v).toArray (0, 0) _ rfl (HQ.out.setRow _) Tryd.underlying94 rfl HI5.out) rfl ⟨v, rfl, HW6.out, HVB.out, below_setRow HB.out (by omega) _⟩
  · refine Kt.step_new rfl 94 rfl Tryd.zeroCells94 (.pointer (some ⟨X0.heap.size, 0, none⟩)) (by kernel_rfl) ?_
    have hB : Below X0.heap.size X0 (X0.alloc (.cells Tryd.zeroCells94 94)) := (Below.refl _ _).alloc (Nat.le_refl _) _
    have hZ : Blk (X0.alloc (.cells Tryd.zeroCells94 94)) X0.heap.size 94 (rsg (List.replicate 1024 0) 0 (.slice none 0 0)) := by
      have h := Blk.new X0 94 (rsg (List.replicate 1024 0) 0 (.slice none 0 0))
      rw [zc94] at h
      exact h
    generalize X0.alloc (.cells Tryd.zeroCells94 94) = X1 at hB hZ ⊢
    obtain ⟨g3, hg3⟩ : ∃ q, X0.heap.size = q := ⟨_, rfl⟩
    have hg3b : w.heap.size + 1 < g3 := by have := QX0.out.lt; omega
    rw [hg3] at hZ ⊢
    clear hg3
    have PX1 : Hid (Blk X1 w.heap.size 99 (rsg S key (.slice A m c))) := Lib.hid (PX0.out.below hB PX0.out.lt)
    have QX1 : Hid (Blk X1 (w.heap.size + 1) 94 (rsg (List.replicate 1024 0) 0 (.slice none 0 0))) := Lib.hid (QX0.out.below hB QX0.out.lt)
    have BX1 : Hid (Below w.heap.size w X1) := Lib.hid (BX0.out.trans (hB.mono BX0.out.size))
    have ZX1 : Hid (Blk X1 g3 94 (rsg (List.replicate 1024 0) 0 (.slice none 0 0))) := Lib.hid (hZ)
    clear PX0 QX0 BX0 hB hZ
    refine hK.out _ _ (PX1.out) (fun hHeld => ?_)
    clear hK K
    show wpAnyH _ _ _ _ _ _ _ (Act.put _ (some 3) _) _
    simp only [Act.put, List.setIfInBounds_toArray, List.set_cons_zero, List.set_cons_succ]
    refine wpAnyH_ready (rs := [2]) (by kernel_rfl) (by simp) ?_
    refine AllReadyH.cons rfl (fun K hK => ?_) AllReadyH.nil
    refine step_call rfl 27 #[.tmp 7] #[51] rfl #[.agg (w8 S).toArray] (by simp [Act.eval]) (by go_simp) (to_any S X1 HSL) ?_
    rintro e X2 ⟨rfl, hB⟩
    have PX2 : Hid (Blk X2 w.heap.size 99 (rsg S key (.slice A m c))) := Lib.hid (PX1.out.below hB PX1.out.lt)
    have QX2 : Hid (Blk X2 (w.heap.size + 1) 94 (rsg (List.replicate 1024 0) 0 (.slice none 0 0))) := Lib.hid (QX1.out.below hB QX1.out.lt)
    have BX2 : Hid (Below w.heap.size w X2) := Lib.hid (BX1.out.trans (hB.mono BX1.out.size))
    have ZX2 : Hid (Blk X2 g3 94 (rsg (List.replicate 1024 0) 0 (.slice none 0 0))) := Lib.hid (ZX1.out.below hB ZX1.out.lt)
    clear PX1 QX1 BX1 ZX1 hB
    refine ⟨_, rfl, hK.out _ _ (PX2.out) (fun hHeld => ?_)⟩
    clear hK K
    show wpAnyH _ _ _ _ _ _ _ (Act.put _ (some 8) _) _
    simp only [Act.put, List.setIfInBounds_toArray, List.set_cons_zero, List.set_cons_succ]
    refine wpAnyH_take (i := 5) (v := .agg (rsg S key (.slice none 0 0)).toArray) rfl (by kernel_rfl) (by kernel_rfl) (by kernel_rfl) (fun _ _ _ h => h) (Or.inl ⟨by rfl, fun w' h => run_build_op rfl (by simp [Act.eval]) (build94s S key HSL.out w')⟩) hHeld ?_
    show wpAnyH _ _ _ _ _ _ _ (Act.put _ (some 11) _) _
    simp only [Act.put, List.setIfInBounds_toArray, List.set_cons_zero, List.set_cons_succ]
    refine wpAnyH_ready (rs := [7]) (by kernel_rfl) (by simp) ?_
    refine AllReadyH.cons rfl (fun K hK => ?_) AllReadyH.nil
    refine Kt.step_store rfl 94 (.tmp 3) (.tmp 11) rfl g3 (rsg S key (.slice none 0 0)) rfl rfl 94 _ ZX2.out HI0.out HL0.out HO0.out ?_
    intro X3 hZ hO
    have hnP : some w.heap.size ≠ some g3 := fun e => by injection e with e; omega
    have hnQ : some (w.heap.size + 1) ≠ some g3 := fun e => by injection e with e; omega
    have PX3 : Hid (Blk X3 w.heap.size 99 (rsg S key (.slice A m c))) := Lib.hid (PX2.out.grown hO hnP)
    have QX3 : Hid (Blk X3 (w.heap.size + 1) 94 (rsg (List.replicate 1024 0) 0 (.slice none 0 0))) := Lib.hid (QX2.out.grown hO hnQ)
    have BX3 : Hid (Below w.heap.size w X3) := Lib.hid (BX2.out.trans (only_up hO (by omega) BX2.out.size))
    have ZX3 : Hid (Blk X3 g3 94 (rsg S key (.slice none 0 0))) := Lib.hid (hZ)
    clear PX2 QX2 BX2 hZ hO hnP hnQ
    refine hK.out _ _ (PX3.out) (fun hHeld => ?_)
    clear hK K
    show wpAnyH _ _ _ _ _ _ _ (Act.put _ none _) _
    simp only [Act.put]
    refine wpAnyH_done (by kernel_rfl) ?_ _
    clear hHeld
    have hx1 : g3 < X3.heap.size := ZX3.out.lt
    have c1025 : X3.cell? ⟨w.heap.size, 1025, none⟩ = some (.slice A m c) := by rw [PX3.out.cell]; exact rsg_way _ _ _ HSL.out
    go_wp2_with fail
    clear c1025
    go_loopw [15, 5] (fun i _ wr => ∃ (k : Nat) (v : Value), k ≤ m ∧ i = .int .i64 k ∧ Hid (wr.ownsRow w.heap.size 36 32 v k (w8 (rows f k))) ∧ Hid (Blk wr g3 94 (rsg S key v)) ∧ Hid (Blk wr (w.heap.size + 1) 94 (rsg (List.replicate 1024 0) 0 (.slice none 0 0))) ∧ Hid (Below w.heap.size w wr)) (fun i _ _ => m - (intOf i).toNat)
    case atStart => exact ⟨0, .slice none 0 0, Nat.zero_le _, rfl, Lib.hid (World.ownsRow_nil _ _ _ _), ZX3, QX3, BX3⟩
    case round =>
      clear PX3 QX3 ZX3 BX3
      obtain ⟨k, v, hk, rfl, HO, HZ, HQ, HB⟩ := hrel
      by_cases hlt : k < m
      · have k1 : (k : Int) < (m : Int) := by omega
        obtain ⟨A', c', hA, h2⟩ := HY.out
        injection hA with hA1 hA2 hA3
        subst hA1
        subst hA3
        obtain ⟨gw, o, rfl, hgw, hcell⟩ : ∃ g o, A = some ⟨g, o, none⟩ ∧ g < w.heap.size ∧ ∀ i, i < m → w.rangeAt g (o + i * 32) (w8 (f i)) := by
          rcases h2 with h2 | h2
          · omega
          · exact h2
        have HFK : Hid ((w8 (f k)).length = 32) := Lib.hid (by rw [w8_length, HF.out])
        have HFR : Hid (wr.rangeAt gw (o + k * 32) (w8 (f k))) := Lib.hid fun j u hu => (HB.out.cell (p := ⟨gw, o + k * 32 + j, none⟩) hgw).trans (hcell k hlt j u hu)
        have HI2 : Hid ((Tryd.prog.info? 29).map (·.size) = some (w8 (f k)).length) := Lib.hid (by rw [HFK.out]; exact info29)
        have HI3 : Hid ((Tryd.prog.info? 29).map (·.size) = some (w8 (f k)).toArray.size) := Lib.hid (by rw [List.size_toArray]; exact HI2.out)
        have HZ3 : Hid (zsum.size = (w8 (f k)).toArray.size) := Lib.hid (Eq.trans (b := 32) rfl (by rw [List.size_toArray, HFK.out]))
        have HO3 := Lib.hid (all_oneCell_toArray (w8_one (f k)))
        have HL3 := Lib.hid (heap_alloc_last wr (.cells zsum 29))
        have hwr : g3 < wr.heap.size := HZ.out.lt
        clear hcell h2
        go_upto_region 5 with (first | (refine wpList_load_mid rfl 29 (.tmp 17) rfl gw (o + k * 32) rfl (w8 (f k)) _ HFR.out Tryd.underlying29 rfl HI2.out ?_) | (refine wpList_store_row rfl 29 (.tmp 5) (.tmp 18) rfl wr.heap.size (w8 (f k)).toArray rfl rfl 29 _ HL3.out HI3.out HZ3.out HO3.out ?_; rw [World.setRow_alloc_new]))
        have hB : Below wr.heap.size wr (wr.alloc (.cells (w8 (f k)).toArray 29)) := (Below.refl _ _).alloc (Nat.le_refl _) _
        have HD : Hid (Blk (wr.alloc (.cells (w8 (f k)).toArray 29)) wr.heap.size 29 (w8 (f k))) := Lib.hid (Blk.new _ _ _)
        have HO1 := Lib.hid (HO.out.alloc (.cells (w8 (f k)).toArray 29))
        have HZ1 := Lib.hid (HZ.out.below hB HZ.out.lt)
        have HQ1 := Lib.hid (HQ.out.below hB HQ.out.lt)
        have HB1 := Lib.hid (HB.out.trans (hB.mono HB.out.size))
        clear hB HO HZ HQ HB HL3 HFR
        generalize wr.alloc (.cells (w8 (f k)).toArray 29) = D at HD HO1 HZ1 HQ1 HB1 ⊢
        generalize wr.heap.size = g5 at HD ⊢
        have HDR := Lib.hid HD.out.all
        have hd1 : g3 < D.heap.size := HZ1.out.lt
        have hd2 : w.heap.size + 1 < D.heap.size := HQ1.out.lt
        have c1025 : D.cell? ⟨g3, 1025, none⟩ = some v := by rw [HZ1.out.cell]; exact rsg_way _ _ _ HSL.out
        have hl1 := Blk.new D 36 (w8 (f k))
        have hB1 : Below D.heap.size D (D.alloc (.cells (w8 (f k)).toArray 36)) := (Below.refl _ _).alloc (Nat.le_refl _) _
        obtain ⟨i0, hi, hz0, hz1, hz2⟩ := info_parts info36f
        obtain ⟨v', W', hrun, hown, hgrow, _, hblk⟩ := run_append_own_at (P := Tryd.prog) (D.alloc (.cells (w8 (f k)).toArray 36)) w.heap.size 92 0 36 i0 (.agg zsum) 32 32 Tryd.underlying92 hi hz0 hz1 hz2 rfl (by decide) v k (w8 (rows f k)) (HO1.out.alloc _) ⟨D.heap.size, 0, none⟩ 1 1 (w8 (f k)) (by rw [HFK.out])
          (fun j u hu => by rw [Go.WideShapes.add_plain, Nat.zero_add, hl1.cell]; exact hu) (w8_one _) (by unfold maxLen; omega) (by omega) (by have := HB1.out.size; simp; omega)
        obtain ⟨gx, cx, hv2⟩ : ∃ gx cx, v' = .slice (some ⟨gx, 0, none⟩) (k + 1) cx := by
          rcases hown.2 with ⟨_, h0⟩ | ⟨gx, cx, _, h1, _⟩
          · omega
          · exact ⟨gx, cx, h1⟩
        subst hv2
        have HRUN : Hid (∀ ty, (Builtin.append_ #[92, 92] ty #[v, .slice (some ⟨D.heap.size, 0, none⟩) 1 1]).run Tryd.prog (D.alloc (.cells (w8 (f k)).toArray 36)) = .ok (.slice (some ⟨gx, 0, none⟩) (k + 1) cx) W') := Lib.hid fun ty => hrun
        have hne : ∀ (x : Nat) (cs : List Value), Blk D x 94 cs → Blk W' x 94 cs := fun x cs hx => (hx.alloc _).grown hgrow (by
          intro e
          obtain ⟨cs', hb⟩ := own_block (HO1.out.alloc (.cells (w8 (f k)).toArray 36)) e.symm
          exact Blk.ne_ (hx.alloc _) hb (by decide) rfl)
        have HZ2 := Lib.hid (hne _ _ HZ1.out)
        have HQ2 := Lib.hid (hne _ _ HQ1.out)
        have HO2 : Hid (W'.ownsRow w.heap.size 36 32 (.slice (some ⟨gx, 0, none⟩) (k + 1) cx) (k + 1) (w8 (rows f (k + 1)))) := Lib.hid (by rw [rows_succ, ← w8_append]; exact hown)
        have HB2 : Hid (Below w.heap.size w W') := Lib.hid ((HB1.out.trans (hB1.mono HB1.out.size)).grown hgrow (by have := HB1.out.size; simp; omega) (fun q hq => ((HO1.out.alloc (.cells (w8 (f k)).toArray 36)).lt q hq).1))
        have d1025 : W'.cell? ⟨g3, 1025, none⟩ = some v := by rw [HZ2.out.cell]; exact rsg_way _ _ _ HSL.out
        have e1025 : W'.frozen? ⟨g3, 1025, none⟩ = false := HZ2.out.frozen _
        have HLAY := Lib.hid (lay92 (f k) (HF.out k) D)
        clear hrun hown hgrow hblk hne hl1 hB1 HO1 HZ1 HQ1 HB1
        go_upto_region 6 with (first | (refine wpList_load_mid rfl 29 (.tmp 5) rfl g5 0 rfl (w8 (f k)) _ HDR.out Tryd.underlying29 rfl HI2.out ?_) | (refine wpList_lay_v rfl 92 1 #[(0, .tmp 21)] rfl #[(0, .agg (w8 (f k)).toArray)] (by simp [Act.eval, Act.put]) _ _ HLAY.out ?_) | (at_builtin; refine wpList_append_run_ rfl (.tmp 20) (.tmp 22) 92 92 rfl (.slice (some ⟨gx, 0, none⟩) (k + 1) cx) W' (fun ty => HRUN.out ty) ?_))
        have hOs : W'.grownBy (W'.setCell ⟨g3, 1025, none⟩ (.slice (some ⟨gx, 0, none⟩) (k + 1) cx)) (some g3) := only_setCell (only_refl _ _) (.inl rfl) _
        have HZs : Hid (Blk (W'.setCell ⟨g3, 1025, none⟩ (.slice (some ⟨gx, 0, none⟩) (k + 1) cx)) g3 94 (rsg S key (.slice (some ⟨gx, 0, none⟩) (k + 1) cx))) := Lib.hid (by
          have h := HZ2.out.set_ 1025 (.slice (some ⟨gx, 0, none⟩) (k + 1) cx)
          rw [rsg_set _ _ _ _ HSL.out] at h
          exact h)
        have HQs := Lib.hid (HQ2.out.grown hOs (fun e => by injection e with e; omega))
        have HOs := Lib.hid (HO2.out.kept hOs (by
          right
          intro e
          obtain ⟨cs', hb⟩ := own_block HO2.out e
          exact Blk.ne_ HZ2.out hb (by decide) rfl))
        have HBs := Lib.hid (HB2.out.trans (only_up hOs (by omega) HB2.out.size))
        clear hOs HZ2 HQ2 HO2 HB2 d1025 e1025 c1025 HRUN HLAY HD HDR
        generalize W'.setCell ⟨g3, 1025, none⟩ (.slice (some ⟨gx, 0, none⟩) (k + 1) cx) = E at HZs HQs HOs HBs ⊢
        go_wp2
        go_roundw
        case rel => exact ⟨k + 1, _, by omega, by go_num, HOs, HZs, HQs, HBs⟩
        case measure => simp [intOf]; omega
      · obtain rfl : k = m := by omega
        have HV1 : Hid (∃ a n c, v = .slice a n c) := Lib.hid (by
          rcases HO.out.2 with ⟨h1, _⟩ | ⟨g, cap, cur, h1, _⟩
          · exact ⟨none, 0, 0, h1⟩
          · exact ⟨_, _, _, h1⟩)
        have HVB : Hid (∃ a c, v = .slice a k c ∧ k ≤ c ∧ c ≤ 9223372036854775807) := Lib.hid (by
          rcases HO.out.2 with ⟨h1, h2⟩ | ⟨g, cap, cur, h1, _, _, h2, h3, _⟩
          · exact ⟨none, 0, by rw [h1, h2], by omega, by omega⟩
          · exact ⟨_, cap, h1, h2, by unfold maxLen at h3; exact h3⟩)
        have HVO : Hid (v.oneCell' = true) := Lib.hid (by
          obtain ⟨a, n, c, h1⟩ := HV1.out
          rw [h1]; rfl)
        have HZR := Lib.hid HZ.out.all
        have HI4 : Hid ((Tryd.prog.info? 94).map (·.size) = some (rsg S key v).length) := Lib.hid (by rw [rsg_length _ _ _ HSL.out]; exact info94)
        have HI5 : Hid ((Tryd.prog.info? 94).map (·.size) = some (rsg S key v).toArray.size) := Lib.hid (by rw [List.size_toArray]; exact HI4.out)
        have HL5 : Hid ((rsg (List.replicate 1024 0) 0 (.slice none 0 0)).toArray.size = (rsg S key v).toArray.size) := Lib.hid (by rw [List.size_toArray, List.size_toArray, rsg_length _ _ _ (by simp), rsg_length _ _ _ HSL.out])
        have HO5 := Lib.hid (all_oneCell_toArray (rsg_one S key v HVO.out))
        have HW5 := Lib.hid (wayR_own (f := f) HF.out HO.out)
        have hO : wr.grownBy (wr.setRow (w.heap.size + 1) (rsg S key v).toArray) (some (w.heap.size + 1)) := only_setRow (only_refl _ _) _
        have HW6 : Hid (WayR (wr.setRow (w.heap.size + 1) (rsg S key v).toArray) v f k) := Lib.hid (wayR_own (f := f) HF.out (HO.out.kept hO (by
          right
          intro e
          obtain ⟨cs', hb⟩ := own_block HO.out e
          exact Blk.ne_ HQ.out hb (by decide) rfl)))
        go_wp2_with (first | (refine wpList_load_mid rfl 94 (.tmp 3) rfl g3 0 rfl (rsg S key v) _ HZR.out Tryd.underlying94 rfl HI4.out ?_) | (refine wpList_store_row rfl 94 (.tmp 2) (.tmp 26) rfl (w.heap.size + 1) (rsg S key v).toArray rfl rfl 94 _ HQ.out HI5.out HL5.out HO5.out ?_))
        exact bodyPost_ret (v := .agg (rsg S key v).toArray) (results_cell_row Tryd.results55 _ _ (w.heap.size + 1) 94 (rsg S key v).toArray (0, 0) _ rfl (HQ.out.setRow _) Tryd.underlying94 rfl HI5.out) rfl ⟨v, rfl, HW6.out, HVB.out, below_setRow HB.out (by omega) _⟩
end Go.Proofs.YtkonokjhpddbfaaDoor
