/-
  ChartLooks' walk.
-/
import Derived.Test.YtjbjekejekmipaaNearLib
import Derived.Test.YtjbjekejekmipaaStep
import Derived.Test.YtjbjekejekmipaaArg
namespace Go.Proofs.Ytjbjekejekmipaa
open Go.RowKit
set_option linter.unusedVariables false

set_option maxRecDepth 100000 in
set_option maxHeartbeats 4000000 in
theorem looks_walk (x y a b c d : Int) (s : Option Addr) (len cap : Nat) (l : List (Int × Int)) (w : World) (hl1 : l.length = len) (hl2 : SpotRow w s l) (hbd : len * 16 ≤ 140737488351232) :
    Calls Try.prog 4 #[.agg #[.int .i64 x, .int .i64 y], .agg #[.int .i64 a, .int .i64 b], .agg #[.int .i64 c, .int .i64 d], .slice s len cap] w fun e w' => e = .returned (.bool true) ∧ Below w.heap.size w w' := by
  have HL := Lib.hid hl1
  have HR := Lib.hid hl2
  have HBD := Lib.hid hbd
  have hl3 : len ≤ 8796093022208 := by omega
  clear hl1 hl2 hbd
  go_enter Try.func4, Try.ntmps4
  go_wp2_with fail
  have Q0 : Hid (Pt (((w.alloc (.cells #[.int .i64 x, .int .i64 y] 23)).alloc (.cells #[.int .i64 a, .int .i64 b] 23)).alloc (.cells #[.int .i64 c, .int .i64 d] 23)) (w.heap.size) 23 (x) (y)) := Lib.hid (((Pt.mk_ rfl).alloc _).alloc _)
  have Q1 : Hid (Pt (((w.alloc (.cells #[.int .i64 x, .int .i64 y] 23)).alloc (.cells #[.int .i64 a, .int .i64 b] 23)).alloc (.cells #[.int .i64 c, .int .i64 d] 23)) (w.heap.size + 1) 23 (a) (b)) := Lib.hid ((Pt.mk_ (by simp)).alloc _)
  have Q2 : Hid (Pt (((w.alloc (.cells #[.int .i64 x, .int .i64 y] 23)).alloc (.cells #[.int .i64 a, .int .i64 b] 23)).alloc (.cells #[.int .i64 c, .int .i64 d] 23)) (w.heap.size + 1 + 1) 23 (c) (d)) := Lib.hid (Pt.mk_ (by simp))
  have HW1 : Hid (Below w.heap.size w (((w.alloc (.cells #[.int .i64 x, .int .i64 y] 23)).alloc (.cells #[.int .i64 a, .int .i64 b] 23)).alloc (.cells #[.int .i64 c, .int .i64 d] 23))) := Lib.hid ((((Below.refl _ _).alloc (Nat.le_refl _) _).alloc (by simp) _).alloc (by simp; omega) _)
  generalize (((w.alloc (.cells #[.int .i64 x, .int .i64 y] 23)).alloc (.cells #[.int .i64 a, .int .i64 b] 23)).alloc (.cells #[.int .i64 c, .int .i64 d] 23)) = W at Q0 Q1 Q2 HW1  ⊢
  replace HR := Lib.hid (HR.out.below HW1.out)
  go_loopw [9, 11, 14] (fun t _ i wr => ∃ (k : Nat), k ≤ len ∧ i = .int .i64 k ∧ Hid (wr.ownsRow W.heap.size 24 2 t k (flat (l.take k))) ∧ Hid (Below W.heap.size W wr)) (fun _ _ i _ => len - (intOf i).toNat)
  case atStart => exact ⟨0, Nat.zero_le _, rfl, Lib.hid ⟨rfl, .inl ⟨rfl, rfl⟩⟩, Lib.hid (Below.refl _ _)⟩
  case round =>
    obtain ⟨k, hk, rfl, HO, HB⟩ := hrel
    by_cases hlt : k < len
    · obtain ⟨q, hq⟩ : ∃ q, l.getD k (0, 0) = q := ⟨_, rfl⟩
      obtain ⟨u, v⟩ := q
      rcases HR.out with h0 | ⟨b0, off, rfl, hb, hc⟩
      · exfalso; have h := HL.out; rw [h0] at h; simp at h; omega
      · obtain ⟨hc1, hc2⟩ := hc k (by rw [HL.out]; exact hlt)
        rw [hq] at hc1 hc2
        have HX := Lib.hid hq
        rw [← HB.out.cell (p := ⟨b0, off + k * 2, none⟩) hb] at hc1
        rw [← HB.out.cell (p := ⟨b0, off + k * 2 + 1, none⟩) hb] at hc2
        clear hq hc
        have hb3 : b0 < wr.heap.size := Nat.lt_of_lt_of_le hb HB.out.size
        simp only at hc1 hc2
        go_wp2_with fail
        have HW2 : Hid (Below W.heap.size W (wr.alloc (.cells #[.int .i64 u, .int .i64 v] 23))) := Lib.hid (HB.out.alloc HB.out.size _)
        have HO2 := Lib.hid (HO.out.alloc (.cells #[.int .i64 u, .int .i64 v] 23))
        refine (to_any _ _ _).mono ?_
        rintro e Y ⟨rfl, hB⟩
        have HW3 := Lib.hid (HW2.out.trans (hB.mono HW2.out.size))
        have HO3 := Lib.hid (ownsRow_keep HO2.out hB)
        clear hB HW2 HO2 HO HB hc1 hc2 hb3
        obtain ⟨i0, hi, hz0, hz1, hz2⟩ := info_parts spot_info
        go_wp2_with (at_builtin; refine wpList_append_own _ rfl (.tmp 18) (.tmp 21) 39 rfl W.heap.size 24 i0 (.agg #[.int .i64 0, .int .i64 0]) 2 16 Try.underlying39 hi hz0 hz1 hz2 rfl (by decide) _ k (flat (l.take k)) rfl (HO3.out.alloc _) ⟨Y.heap.size, 0, none⟩ 1 1 [.int .i64 u, .int .i64 v] rfl rfl ?c1 ?c2 ?c3 ?c4 ?c5 ?_)
        case c1 =>
          intro j z hj
          match j, hj with
          | 0, hj => simp at hj; subst hj; simp [Addr.add]
          | 1, hj => simp at hj; subst hj; simp [Addr.add]
        case c2 => intro z hz; simp at hz; rcases hz with rfl | rfl <;> rfl
        case c3 => have h := HBD.out; unfold maxLen; omega
        case c4 => have h := HBD.out; omega
        case c5 => have h := HW3.out.size; simp; omega
        intro v2 w1 hown' hgrow _
        have HB1 := Lib.hid ((HW3.out.alloc HW3.out.size (.cells #[.int .i64 u, .int .i64 v] 24)).grown hgrow (by have h := HW3.out.size; simp; omega) (fun g hg => (HO3.out.lt g hg).1))
        have e2 : flat (l.take k) ++ [.int .i64 u, .int .i64 v] = flat (l.take (k + 1)) := flat_snoc l k (u, v) (by rw [HL.out]; exact hlt) HX.out
        rw [e2] at hown'
        have HO1 := Lib.hid hown'
        clear hown' hgrow e2
        go_wp2
        go_roundw
        case rel => exact ⟨k + 1, by omega, by go_num, HO1, HB1⟩
        case measure => simp [intOf] <;> omega
    · obtain rfl : len = k := by omega
      have h4 := HO.out
      rw [List.take_of_length_le (by rw [HL.out]; exact Nat.le_refl _)] at h4
      rw [← HL.out] at h4
      clear HO
      obtain ⟨a9, c9, rfl, hrow⟩ := SpotRow.of_own h4
      have HRW := Lib.hid hrow
      clear hrow h4
      rw [HL.out]
      replace Q0 := Lib.hid (Q0.out.keep HB.out)
      replace Q1 := Lib.hid (Q1.out.keep HB.out)
      replace Q2 := Lib.hid (Q2.out.keep HB.out)
      replace HW1 := Lib.hid (HW1.out.trans (HB.out.mono HW1.out.size))
      replace HR := Lib.hid (HR.out.below HB.out)
      clear HB
      have HNE : Hid (∀ w', Below wr.heap.size wr w' → Calls Try.prog 27 #[.agg #[.int .i64 x, .int .i64 y], .slice a9 len c9] w' fun e w2 => e = .returned (.int .i64 (nearP x y l)) ∧ Below w'.heap.size w' w2) := Lib.hid fun w' h => by
        have h2 := nearest_any x y a9 c9 l w' (HRW.out.below h) (by rw [HL.out]; omega)
        rw [HL.out] at h2
        exact h2
      have HNR : Hid (∀ w', Below wr.heap.size wr w' → Calls Try.prog 28 #[.agg #[.int .i64 x, .int .i64 y], .slice s len cap] w' fun e w2 => e = .returned (.int .i64 (nearP x y l)) ∧ Below w'.heap.size w' w2) := Lib.hid fun w' h => by
        have h2 := rnearest_any x y s cap l w' (HR.out.below h) (by rw [HL.out]; omega)
        rw [HL.out] at h2
        exact h2
      go_upto_region 7 with fail
      refine wp_region_held_drew (S := fun w' => Below wr.heap.size wr w') (by kernel_rfl) (Below.refl _ _).drew (fun hHeld => ?_)
      have HSX0 : Hid (Below wr.heap.size wr wr.drew) := Lib.hid hHeld
      generalize wr.drew = X0 at hHeld HSX0 ⊢
      refine wpAnyH_ready (rs := [0]) (by kernel_rfl) (by simp) ?_
      refine AllReadyH.cons rfl (fun K hK => ?_) AllReadyH.nil
      refine step_call rfl 23 #[] #[] rfl #[] (by simp) (by go_simp) (awake_any _) ?_
      rintro e X1 ⟨rfl, hB⟩
      have HSX1 := Lib.hid (HSX0.out.trans (hB.mono HSX0.out.size))
      clear hB HSX0
      refine ⟨_, rfl, hK.out _ _ HSX1.out (fun hHeld => ?_)⟩
      clear hK K
      show wpAnyH _ _ _ _ _ _ _ (Act.put _ (some 24) _) _
      simp only [Act.put, List.setIfInBounds_toArray, List.set_cons_zero, List.set_cons_succ]
      refine wpAnyH_take (i := 1) (v := .bool true) rfl (by kernel_rfl) (by kernel_rfl) (by kernel_rfl) (fun _ _ _ h => h) (Or.inl ⟨by rfl, fun w _ => by rfl⟩) hHeld ?_
      show wpAnyH _ _ _ _ _ _ _ (Act.put _ (some 25) _) _
      simp only [Act.put, List.setIfInBounds_toArray, List.set_cons_zero, List.set_cons_succ]
      refine wpAnyH_take (i := 2) (v := .agg #[.int .i64 x, .int .i64 y]) rfl (by kernel_rfl) (by kernel_rfl) (by kernel_rfl) (fun _ _ _ h => h) (Or.inl ⟨by rfl, by intro w' h; have k1 := (Q0.out.keep h).c0; have k2 := (Q0.out.keep h).c1; go_simp⟩) hHeld ?_
      show wpAnyH _ _ _ _ _ _ _ (Act.put _ (some 26) _) _
      simp only [Act.put, List.setIfInBounds_toArray, List.set_cons_zero, List.set_cons_succ]
      refine wpAnyH_take (i := 4) (v := .agg #[.int .i64 a, .int .i64 b]) rfl (by kernel_rfl) (by kernel_rfl) (by kernel_rfl) (fun _ _ _ h => h) (Or.inl ⟨by rfl, by intro w' h; have k1 := (Q1.out.keep h).c0; have k2 := (Q1.out.keep h).c1; go_simp⟩) hHeld ?_
      show wpAnyH _ _ _ _ _ _ _ (Act.put _ (some 28) _) _
      simp only [Act.put, List.setIfInBounds_toArray, List.set_cons_zero, List.set_cons_succ]
      refine wpAnyH_take (i := 7) (v := .agg #[.int .i64 x, .int .i64 y]) rfl (by kernel_rfl) (by kernel_rfl) (by kernel_rfl) (fun _ _ _ h => h) (Or.inl ⟨by rfl, by intro w' h; have k1 := (Q0.out.keep h).c0; have k2 := (Q0.out.keep h).c1; go_simp⟩) hHeld ?_
      show wpAnyH _ _ _ _ _ _ _ (Act.put _ (some 31) _) _
      simp only [Act.put, List.setIfInBounds_toArray, List.set_cons_zero, List.set_cons_succ]
      refine wpAnyH_take (i := 8) (v := .agg #[.int .i64 a, .int .i64 b]) rfl (by kernel_rfl) (by kernel_rfl) (by kernel_rfl) (fun _ _ _ h => h) (Or.inl ⟨by rfl, by intro w' h; have k1 := (Q1.out.keep h).c0; have k2 := (Q1.out.keep h).c1; go_simp⟩) hHeld ?_
      show wpAnyH _ _ _ _ _ _ _ (Act.put _ (some 32) _) _
      simp only [Act.put, List.setIfInBounds_toArray, List.set_cons_zero, List.set_cons_succ]
      refine wpAnyH_ready (rs := [3]) (by kernel_rfl) (by simp) ?_
      refine AllReadyH.cons rfl (fun K hK => ?_) AllReadyH.nil
      refine step_call rfl 14 #[.tmp 26] #[23] rfl #[.agg #[.int .i64 x, .int .i64 y]] (by simp [Act.eval]) (by go_simp) (to_any _ _ _) ?_
      rintro e X2 ⟨rfl, hB⟩
      have HSX2 := Lib.hid (HSX1.out.trans (hB.mono HSX1.out.size))
      clear hB HSX1
      refine ⟨_, rfl, hK.out _ _ HSX2.out (fun hHeld => ?_)⟩
      clear hK K
      show wpAnyH _ _ _ _ _ _ _ (Act.put _ (some 27) _) _
      simp only [Act.put, List.setIfInBounds_toArray, List.set_cons_zero, List.set_cons_succ]
      refine wpAnyH_ready (rs := [5]) (by kernel_rfl) (by simp) ?_
      refine AllReadyH.cons rfl (fun K hK => ?_) AllReadyH.nil
      refine step_call rfl 14 #[.tmp 28] #[23] rfl #[.agg #[.int .i64 a, .int .i64 b]] (by simp [Act.eval]) (by go_simp) (to_any _ _ _) ?_
      rintro e X3 ⟨rfl, hB⟩
      have HSX3 := Lib.hid (HSX2.out.trans (hB.mono HSX2.out.size))
      clear hB HSX2
      refine ⟨_, rfl, hK.out _ _ HSX3.out (fun hHeld => ?_)⟩
      clear hK K
      show wpAnyH _ _ _ _ _ _ _ (Act.put _ (some 29) _) _
      simp only [Act.put, List.setIfInBounds_toArray, List.set_cons_zero, List.set_cons_succ]
      refine wpAnyH_ready (rs := [6]) (by kernel_rfl) (by simp) ?_
      refine AllReadyH.cons rfl (fun K hK => ?_) AllReadyH.nil
      refine step_call rfl 25 #[.tmp 27, .tmp 29] #[24, 24] rfl #[.agg #[.int .i64 x, .int .i64 y], .agg #[.int .i64 a, .int .i64 b]] (by simp [Act.eval]) (by go_simp) (far_any x y a b _) ?_
      rintro e X4 ⟨rfl, hB⟩
      have HSX4 := Lib.hid (HSX3.out.trans (hB.mono HSX3.out.size))
      clear hB HSX3
      refine ⟨_, rfl, hK.out _ _ HSX4.out (fun hHeld => ?_)⟩
      clear hK K
      show wpAnyH _ _ _ _ _ _ _ (Act.put _ (some 30) _) _
      simp only [Act.put, List.setIfInBounds_toArray, List.set_cons_zero, List.set_cons_succ]
      refine wpAnyH_ready (rs := [9]) (by kernel_rfl) (by simp) ?_
      refine AllReadyH.cons rfl (fun K hK => ?_) AllReadyH.nil
      refine step_call rfl 26 #[.tmp 31, .tmp 32] #[23, 23] rfl #[.agg #[.int .i64 x, .int .i64 y], .agg #[.int .i64 a, .int .i64 b]] (by simp [Act.eval]) (by go_simp) (rfar_any x y a b _) ?_
      rintro e X5 ⟨rfl, hB⟩
      have HSX5 := Lib.hid (HSX4.out.trans (hB.mono HSX4.out.size))
      clear hB HSX4
      refine ⟨_, rfl, hK.out _ _ HSX5.out (fun hHeld => ?_)⟩
      clear hK K
      show wpAnyH _ _ _ _ _ _ _ (Act.put _ (some 33) _) _
      simp only [Act.put, List.setIfInBounds_toArray, List.set_cons_zero, List.set_cons_succ]
      refine wpAnyH_take (i := 10) (v := .bool true) rfl (by kernel_rfl) (by kernel_rfl) (by kernel_rfl) (fun _ _ _ h => h) (Or.inl ⟨by rfl, by intro w' _; go_simp⟩) hHeld ?_
      show wpAnyH _ _ _ _ _ _ _ (Act.put _ (some 34) _) _
      simp only [Act.put, List.setIfInBounds_toArray, List.set_cons_zero, List.set_cons_succ]
      refine wpAnyH_take (i := 11) (v := .bool true) rfl (by kernel_rfl) (by kernel_rfl) (by kernel_rfl) (fun _ _ _ h => h) (Or.inl ⟨by rfl, by intro w hSw; first | rfl | go_simp⟩) hHeld ?_
      show wpAnyH _ _ _ _ _ _ _ (Act.put _ (some 35) _) _
      simp only [Act.put, List.setIfInBounds_toArray, List.set_cons_zero, List.set_cons_succ]
      refine wpAnyH_take (i := 12) (v := .bool true) rfl (by kernel_rfl) (by kernel_rfl) (by kernel_rfl) (fun _ _ _ h => h) (Or.inl ⟨by rfl, fun w _ => by rfl⟩) hHeld ?_
      show wpAnyH _ _ _ _ _ _ _ (Act.put _ (some 36) _) _
      simp only [Act.put, List.setIfInBounds_toArray, List.set_cons_zero, List.set_cons_succ]
      refine wpAnyH_take (i := 13) (v := .agg #[.int .i64 x, .int .i64 y]) rfl (by kernel_rfl) (by kernel_rfl) (by kernel_rfl) (fun _ _ _ h => h) (Or.inl ⟨by rfl, by intro w' h; have k1 := (Q0.out.keep h).c0; have k2 := (Q0.out.keep h).c1; go_simp⟩) hHeld ?_
      show wpAnyH _ _ _ _ _ _ _ (Act.put _ (some 37) _) _
      simp only [Act.put, List.setIfInBounds_toArray, List.set_cons_zero, List.set_cons_succ]
      refine wpAnyH_take (i := 15) (v := .slice a9 len c9) rfl (by kernel_rfl) (by kernel_rfl) (by kernel_rfl) (fun _ _ _ h => h) (Or.inl ⟨by rfl, fun w _ => by rfl⟩) hHeld ?_
      show wpAnyH _ _ _ _ _ _ _ (Act.put _ (some 39) _) _
      simp only [Act.put, List.setIfInBounds_toArray, List.set_cons_zero, List.set_cons_succ]
      refine wpAnyH_take (i := 17) (v := .agg #[.int .i64 x, .int .i64 y]) rfl (by kernel_rfl) (by kernel_rfl) (by kernel_rfl) (fun _ _ _ h => h) (Or.inl ⟨by rfl, by intro w' h; have k1 := (Q0.out.keep h).c0; have k2 := (Q0.out.keep h).c1; go_simp⟩) hHeld ?_
      show wpAnyH _ _ _ _ _ _ _ (Act.put _ (some 41) _) _
      simp only [Act.put, List.setIfInBounds_toArray, List.set_cons_zero, List.set_cons_succ]
      refine wpAnyH_take (i := 18) (v := .slice s len cap) rfl (by kernel_rfl) (by kernel_rfl) (by kernel_rfl) (fun _ _ _ h => h) (Or.inl ⟨by rfl, fun w _ => by rfl⟩) hHeld ?_
      show wpAnyH _ _ _ _ _ _ _ (Act.put _ (some 42) _) _
      simp only [Act.put, List.setIfInBounds_toArray, List.set_cons_zero, List.set_cons_succ]
      refine wpAnyH_ready (rs := [14]) (by kernel_rfl) (by simp) ?_
      refine AllReadyH.cons rfl (fun K hK => ?_) AllReadyH.nil
      refine step_call rfl 14 #[.tmp 37] #[23] rfl #[.agg #[.int .i64 x, .int .i64 y]] (by simp [Act.eval]) (by go_simp) (to_any _ _ _) ?_
      rintro e X6 ⟨rfl, hB⟩
      have HSX6 := Lib.hid (HSX5.out.trans (hB.mono HSX5.out.size))
      clear hB HSX5
      refine ⟨_, rfl, hK.out _ _ HSX6.out (fun hHeld => ?_)⟩
      clear hK K
      show wpAnyH _ _ _ _ _ _ _ (Act.put _ (some 38) _) _
      simp only [Act.put, List.setIfInBounds_toArray, List.set_cons_zero, List.set_cons_succ]
      refine wpAnyH_ready (rs := [16]) (by kernel_rfl) (by simp) ?_
      refine AllReadyH.cons rfl (fun K hK => ?_) AllReadyH.nil
      refine step_call rfl 27 #[.tmp 38, .tmp 39] #[24, 39] rfl #[.agg #[.int .i64 x, .int .i64 y], .slice a9 len c9] (by simp [Act.eval]) (by go_simp) (HNE.out _ HSX6.out) ?_
      rintro e X7 ⟨rfl, hB⟩
      have HSX7 := Lib.hid (HSX6.out.trans (hB.mono HSX6.out.size))
      clear hB HSX6
      refine ⟨_, rfl, hK.out _ _ HSX7.out (fun hHeld => ?_)⟩
      clear hK K
      show wpAnyH _ _ _ _ _ _ _ (Act.put _ (some 40) _) _
      simp only [Act.put, List.setIfInBounds_toArray, List.set_cons_zero, List.set_cons_succ]
      refine wpAnyH_ready (rs := [19]) (by kernel_rfl) (by simp) ?_
      refine AllReadyH.cons rfl (fun K hK => ?_) AllReadyH.nil
      refine step_call rfl 28 #[.tmp 41, .tmp 42] #[23, 38] rfl #[.agg #[.int .i64 x, .int .i64 y], .slice s len cap] (by simp [Act.eval]) (by go_simp) (HNR.out _ HSX7.out) ?_
      rintro e X8 ⟨rfl, hB⟩
      have HSX8 := Lib.hid (HSX7.out.trans (hB.mono HSX7.out.size))
      clear hB HSX7
      refine ⟨_, rfl, hK.out _ _ HSX8.out (fun hHeld => ?_)⟩
      clear hK K
      show wpAnyH _ _ _ _ _ _ _ (Act.put _ (some 43) _) _
      simp only [Act.put, List.setIfInBounds_toArray, List.set_cons_zero, List.set_cons_succ]
      refine wpAnyH_take (i := 20) (v := .bool true) rfl (by kernel_rfl) (by kernel_rfl) (by kernel_rfl) (fun _ _ _ h => h) (Or.inl ⟨by rfl, by intro w' _; go_simp⟩) hHeld ?_
      show wpAnyH _ _ _ _ _ _ _ (Act.put _ (some 44) _) _
      simp only [Act.put, List.setIfInBounds_toArray, List.set_cons_zero, List.set_cons_succ]
      refine wpAnyH_take (i := 21) (v := .bool true) rfl (by kernel_rfl) (by kernel_rfl) (by kernel_rfl) (fun _ _ _ h => h) (Or.inl ⟨by rfl, by intro w hSw; first | rfl | go_simp⟩) hHeld ?_
      show wpAnyH _ _ _ _ _ _ _ (Act.put _ (some 45) _) _
      simp only [Act.put, List.setIfInBounds_toArray, List.set_cons_zero, List.set_cons_succ]
      refine wpAnyH_take (i := 22) (v := .bool true) rfl (by kernel_rfl) (by kernel_rfl) (by kernel_rfl) (fun _ _ _ h => h) (Or.inl ⟨by rfl, fun w _ => by rfl⟩) hHeld ?_
      show wpAnyH _ _ _ _ _ _ _ (Act.put _ (some 46) _) _
      simp only [Act.put, List.setIfInBounds_toArray, List.set_cons_zero, List.set_cons_succ]
      refine wpAnyH_take (i := 23) (v := .agg #[.int .i64 x, .int .i64 y]) rfl (by kernel_rfl) (by kernel_rfl) (by kernel_rfl) (fun _ _ _ h => h) (Or.inl ⟨by rfl, by intro w' h; have k1 := (Q0.out.keep h).c0; have k2 := (Q0.out.keep h).c1; go_simp⟩) hHeld ?_
      show wpAnyH _ _ _ _ _ _ _ (Act.put _ (some 47) _) _
      simp only [Act.put, List.setIfInBounds_toArray, List.set_cons_zero, List.set_cons_succ]
      refine wpAnyH_take (i := 25) (v := .agg #[.int .i64 a, .int .i64 b]) rfl (by kernel_rfl) (by kernel_rfl) (by kernel_rfl) (fun _ _ _ h => h) (Or.inl ⟨by rfl, by intro w' h; have k1 := (Q1.out.keep h).c0; have k2 := (Q1.out.keep h).c1; go_simp⟩) hHeld ?_
      show wpAnyH _ _ _ _ _ _ _ (Act.put _ (some 49) _) _
      simp only [Act.put, List.setIfInBounds_toArray, List.set_cons_zero, List.set_cons_succ]
      refine wpAnyH_take (i := 27) (v := .agg #[.int .i64 c, .int .i64 d]) rfl (by kernel_rfl) (by kernel_rfl) (by kernel_rfl) (fun _ _ _ h => h) (Or.inl ⟨by rfl, by intro w' h; have k1 := (Q2.out.keep h).c0; have k2 := (Q2.out.keep h).c1; go_simp⟩) hHeld ?_
      show wpAnyH _ _ _ _ _ _ _ (Act.put _ (some 51) _) _
      simp only [Act.put, List.setIfInBounds_toArray, List.set_cons_zero, List.set_cons_succ]
      refine wpAnyH_take (i := 30) (v := .agg #[.int .i64 x, .int .i64 y]) rfl (by kernel_rfl) (by kernel_rfl) (by kernel_rfl) (fun _ _ _ h => h) (Or.inl ⟨by rfl, by intro w' h; have k1 := (Q0.out.keep h).c0; have k2 := (Q0.out.keep h).c1; go_simp⟩) hHeld ?_
      show wpAnyH _ _ _ _ _ _ _ (Act.put _ (some 54) _) _
      simp only [Act.put, List.setIfInBounds_toArray, List.set_cons_zero, List.set_cons_succ]
      refine wpAnyH_take (i := 31) (v := .agg #[.int .i64 a, .int .i64 b]) rfl (by kernel_rfl) (by kernel_rfl) (by kernel_rfl) (fun _ _ _ h => h) (Or.inl ⟨by rfl, by intro w' h; have k1 := (Q1.out.keep h).c0; have k2 := (Q1.out.keep h).c1; go_simp⟩) hHeld ?_
      show wpAnyH _ _ _ _ _ _ _ (Act.put _ (some 55) _) _
      simp only [Act.put, List.setIfInBounds_toArray, List.set_cons_zero, List.set_cons_succ]
      refine wpAnyH_take (i := 32) (v := .agg #[.int .i64 c, .int .i64 d]) rfl (by kernel_rfl) (by kernel_rfl) (by kernel_rfl) (fun _ _ _ h => h) (Or.inl ⟨by rfl, by intro w' h; have k1 := (Q2.out.keep h).c0; have k2 := (Q2.out.keep h).c1; go_simp⟩) hHeld ?_
      show wpAnyH _ _ _ _ _ _ _ (Act.put _ (some 56) _) _
      simp only [Act.put, List.setIfInBounds_toArray, List.set_cons_zero, List.set_cons_succ]
      refine wpAnyH_ready (rs := [24]) (by kernel_rfl) (by simp) ?_
      refine AllReadyH.cons rfl (fun K hK => ?_) AllReadyH.nil
      refine step_call rfl 14 #[.tmp 47] #[23] rfl #[.agg #[.int .i64 x, .int .i64 y]] (by simp [Act.eval]) (by go_simp) (to_any _ _ _) ?_
      rintro e X9 ⟨rfl, hB⟩
      have HSX9 := Lib.hid (HSX8.out.trans (hB.mono HSX8.out.size))
      clear hB HSX8
      refine ⟨_, rfl, hK.out _ _ HSX9.out (fun hHeld => ?_)⟩
      clear hK K
      show wpAnyH _ _ _ _ _ _ _ (Act.put _ (some 48) _) _
      simp only [Act.put, List.setIfInBounds_toArray, List.set_cons_zero, List.set_cons_succ]
      refine wpAnyH_ready (rs := [26]) (by kernel_rfl) (by simp) ?_
      refine AllReadyH.cons rfl (fun K hK => ?_) AllReadyH.nil
      refine step_call rfl 14 #[.tmp 49] #[23] rfl #[.agg #[.int .i64 a, .int .i64 b]] (by simp [Act.eval]) (by go_simp) (to_any _ _ _) ?_
      rintro e X10 ⟨rfl, hB⟩
      have HSX10 := Lib.hid (HSX9.out.trans (hB.mono HSX9.out.size))
      clear hB HSX9
      refine ⟨_, rfl, hK.out _ _ HSX10.out (fun hHeld => ?_)⟩
      clear hK K
      show wpAnyH _ _ _ _ _ _ _ (Act.put _ (some 50) _) _
      simp only [Act.put, List.setIfInBounds_toArray, List.set_cons_zero, List.set_cons_succ]
      refine wpAnyH_ready (rs := [28]) (by kernel_rfl) (by simp) ?_
      refine AllReadyH.cons rfl (fun K hK => ?_) AllReadyH.nil
      refine step_call rfl 14 #[.tmp 51] #[23] rfl #[.agg #[.int .i64 c, .int .i64 d]] (by simp [Act.eval]) (by go_simp) (to_any _ _ _) ?_
      rintro e X11 ⟨rfl, hB⟩
      have HSX11 := Lib.hid (HSX10.out.trans (hB.mono HSX10.out.size))
      clear hB HSX10
      refine ⟨_, rfl, hK.out _ _ HSX11.out (fun hHeld => ?_)⟩
      clear hK K
      show wpAnyH _ _ _ _ _ _ _ (Act.put _ (some 52) _) _
      simp only [Act.put, List.setIfInBounds_toArray, List.set_cons_zero, List.set_cons_succ]
      refine wpAnyH_ready (rs := [29]) (by kernel_rfl) (by simp) ?_
      refine AllReadyH.cons rfl (fun K hK => ?_) AllReadyH.nil
      refine step_call rfl 29 #[.tmp 48, .tmp 50, .tmp 52] #[24, 24, 24] rfl #[.agg #[.int .i64 x, .int .i64 y], .agg #[.int .i64 a, .int .i64 b], .agg #[.int .i64 c, .int .i64 d]] (by simp [Act.eval]) (by go_simp) (side_any x y a b c d _) ?_
      rintro e X12 ⟨rfl, hB⟩
      have HSX12 := Lib.hid (HSX11.out.trans (hB.mono HSX11.out.size))
      clear hB HSX11
      refine ⟨_, rfl, hK.out _ _ HSX12.out (fun hHeld => ?_)⟩
      clear hK K
      show wpAnyH _ _ _ _ _ _ _ (Act.put _ (some 53) _) _
      simp only [Act.put, List.setIfInBounds_toArray, List.set_cons_zero, List.set_cons_succ]
      refine wpAnyH_ready (rs := [33]) (by kernel_rfl) (by simp) ?_
      refine AllReadyH.cons rfl (fun K hK => ?_) AllReadyH.nil
      refine step_call rfl 30 #[.tmp 54, .tmp 55, .tmp 56] #[23, 23, 23] rfl #[.agg #[.int .i64 x, .int .i64 y], .agg #[.int .i64 a, .int .i64 b], .agg #[.int .i64 c, .int .i64 d]] (by simp [Act.eval]) (by go_simp) (rside_any x y a b c d _) ?_
      rintro e X13 ⟨rfl, hB⟩
      have HSX13 := Lib.hid (HSX12.out.trans (hB.mono HSX12.out.size))
      clear hB HSX12
      refine ⟨_, rfl, hK.out _ _ HSX13.out (fun hHeld => ?_)⟩
      clear hK K
      show wpAnyH _ _ _ _ _ _ _ (Act.put _ (some 57) _) _
      simp only [Act.put, List.setIfInBounds_toArray, List.set_cons_zero, List.set_cons_succ]
      refine wpAnyH_take (i := 34) (v := .bool true) rfl (by kernel_rfl) (by kernel_rfl) (by kernel_rfl) (fun _ _ _ h => h) (Or.inl ⟨by rfl, by intro w' _; go_simp⟩) hHeld ?_
      show wpAnyH _ _ _ _ _ _ _ (Act.put _ (some 58) _) _
      simp only [Act.put, List.setIfInBounds_toArray, List.set_cons_zero, List.set_cons_succ]
      refine wpAnyH_take (i := 35) (v := .bool true) rfl (by kernel_rfl) (by kernel_rfl) (by kernel_rfl) (fun _ _ _ h => h) (Or.inl ⟨by rfl, by intro w hSw; first | rfl | go_simp⟩) hHeld ?_
      show wpAnyH _ _ _ _ _ _ _ (Act.put _ (some 59) _) _
      simp only [Act.put, List.setIfInBounds_toArray, List.set_cons_zero, List.set_cons_succ]
      refine wpAnyH_take (i := 36) (v := .bool true) rfl (by kernel_rfl) (by kernel_rfl) (by kernel_rfl) (fun _ _ _ h => h) (Or.inl ⟨by rfl, fun w _ => by rfl⟩) hHeld ?_
      show wpAnyH _ _ _ _ _ _ _ (Act.put _ (some 8) _) _
      simp only [Act.put, List.setIfInBounds_toArray, List.set_cons_zero, List.set_cons_succ]
      refine wpAnyH_done (by kernel_rfl) ?_ _
      replace HW1 := Lib.hid (HW1.out.trans (HSX13.out.mono HW1.out.size))
      go_wp2
      go_ret
      exact ⟨rfl, HW1.out⟩

set_option maxRecDepth 100000 in
theorem open38s {H : Type} {enc : TypeId × Value → H} {W : World} {base : Nat} {spare : Nat → Bool} {held : Bool} {a : Option Addr} {len cap : Nat} {d : DataW H} {p : List MemPlace}
    (h : DataW.Trod enc Try.prog W base spare held 38 (.slice a len cap) d p) : len = 0 ∨ ∃ el sp, d = .slice el sp ∧ el.length = len := by
  obtain ⟨fuel, hf⟩ := h
  rcases Go.Deep.open_slice_pairs Try.underlying38 Try.underlying23 (by kernel_rfl) rfl rfl (by kernel_rfl) (by kernel_rfl) hf with ⟨hcs, _⟩ | ⟨x, l, c, m, n, V0, V1, D0, D1, P0, P1, hcs, _, hl, hm, hmm, hd, hx⟩
  · simp [Value.cells] at hcs
    exact .inl hcs.2.1
  · simp [Value.cells] at hcs
    obtain ⟨rfl, rfl, rfl⟩ := hcs
    injection hd with hd _
    exact .inr ⟨_, _, hd, by simp⟩
end Go.Proofs.Ytjbjekejekmipaa
