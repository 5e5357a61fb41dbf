/-
  ChartNear's walk.
-/
import Derived.Test.YtjbjekejekmipaaNearLib
import Derived.Test.YtjbjekejekmipaaStep
import Derived.Test.YtjbjekejekmipaaArg
namespace Go.Proofs.Ytjbjekejekmipaa
open Go.RowKit
set_option linter.unusedVariables false

set_option maxRecDepth 100000 in
set_option maxHeartbeats 4000000 in
theorem near_walk (x y a b c d : Int) (s : Option Addr) (len cap : Nat) (l : List (Int × Int)) (w : World) (hx : I64 x) (hy : I64 y) (ha : I64 a) (hb : I64 b) (hc : I64 c) (hd : I64 d) (hl : l.length = len ∧ SpotRow w s l ∧ (∀ q ∈ l, I64 q.1 ∧ I64 q.2) ∧ len ≤ maxLen) :
    Calls Try.prog 8 #[.agg #[.int .i64 x, .int .i64 y], .agg #[.int .i64 a, .int .i64 b], .agg #[.int .i64 c, .int .i64 d], .slice s len cap] w fun e w' => e = .returned (.bool true) ∧ Below w.heap.size w w' := by
  clear hx hy ha hb hc hd
  obtain ⟨hl1, hl2, _, hl3⟩ := hl
  have HL := Lib.hid hl1
  have HR := Lib.hid hl2
  unfold maxLen at hl3
  clear hl1 hl2
  by_cases h200 : len ≤ 200
  · have HBD : Hid (len * 16 ≤ 140737488351232) := Lib.hid (by omega)
    go_enter Try.func8, Try.ntmps8
    go_wp2_with fail
    have Q0 : Hid (Pt (((w.alloc (.cells #[.int .i64 x, .int .i64 y] 23)).alloc (.cells #[.int .i64 a, .int .i64 b] 23)).alloc (.cells #[.int .i64 c, .int .i64 d] 23)) (w.heap.size) 23 (x) (y)) := Lib.hid (((Pt.mk_ rfl).alloc _).alloc _)
    have Q1 : Hid (Pt (((w.alloc (.cells #[.int .i64 x, .int .i64 y] 23)).alloc (.cells #[.int .i64 a, .int .i64 b] 23)).alloc (.cells #[.int .i64 c, .int .i64 d] 23)) (w.heap.size + 1) 23 (a) (b)) := Lib.hid ((Pt.mk_ (by simp)).alloc _)
    have Q2 : Hid (Pt (((w.alloc (.cells #[.int .i64 x, .int .i64 y] 23)).alloc (.cells #[.int .i64 a, .int .i64 b] 23)).alloc (.cells #[.int .i64 c, .int .i64 d] 23)) (w.heap.size + 1 + 1) 23 (c) (d)) := Lib.hid (Pt.mk_ (by simp))
    have HW1 : Hid (Below w.heap.size w (((w.alloc (.cells #[.int .i64 x, .int .i64 y] 23)).alloc (.cells #[.int .i64 a, .int .i64 b] 23)).alloc (.cells #[.int .i64 c, .int .i64 d] 23))) := Lib.hid ((((Below.refl _ _).alloc (Nat.le_refl _) _).alloc (by simp) _).alloc (by simp; omega) _)
    generalize (((w.alloc (.cells #[.int .i64 x, .int .i64 y] 23)).alloc (.cells #[.int .i64 a, .int .i64 b] 23)).alloc (.cells #[.int .i64 c, .int .i64 d] 23)) = W at Q0 Q1 Q2 HW1  ⊢
    replace HR := Lib.hid (HR.out.below HW1.out)
    go_loopw [9, 11, 22] (fun t _ i wr => ∃ (k : Nat), k ≤ len ∧ i = .int .i64 k ∧ Hid (wr.ownsRow W.heap.size 24 2 t k (flat (l.take k))) ∧ Hid (Below W.heap.size W wr)) (fun _ _ i _ => len - (intOf i).toNat)
    case atStart => exact ⟨0, Nat.zero_le _, rfl, Lib.hid ⟨rfl, .inl ⟨rfl, rfl⟩⟩, Lib.hid (Below.refl _ _)⟩
    case round =>
      obtain ⟨k, hk, rfl, HO, HB⟩ := hrel
      by_cases hlt : k < len
      · obtain ⟨q, hq⟩ : ∃ q, l.getD k (0, 0) = q := ⟨_, rfl⟩
        obtain ⟨u, v⟩ := q
        rcases HR.out with h0 | ⟨b0, off, rfl, hb, hc⟩
        · exfalso; have h := HL.out; rw [h0] at h; simp at h; omega
        · obtain ⟨hc1, hc2⟩ := hc k (by rw [HL.out]; exact hlt)
          rw [hq] at hc1 hc2
          have HX := Lib.hid hq
          rw [← HB.out.cell (p := ⟨b0, off + k * 2, none⟩) hb] at hc1
          rw [← HB.out.cell (p := ⟨b0, off + k * 2 + 1, none⟩) hb] at hc2
          clear hq hc
          have hb3 : b0 < wr.heap.size := Nat.lt_of_lt_of_le hb HB.out.size
          simp only at hc1 hc2
          go_wp2_with fail
          have HW2 : Hid (Below W.heap.size W (wr.alloc (.cells #[.int .i64 u, .int .i64 v] 23))) := Lib.hid (HB.out.alloc HB.out.size _)
          have HO2 := Lib.hid (HO.out.alloc (.cells #[.int .i64 u, .int .i64 v] 23))
          refine (to_any _ _ _).mono ?_
          rintro e Y ⟨rfl, hB⟩
          have HW3 := Lib.hid (HW2.out.trans (hB.mono HW2.out.size))
          have HO3 := Lib.hid (ownsRow_keep HO2.out hB)
          clear hB HW2 HO2 HO HB hc1 hc2 hb3
          obtain ⟨i0, hi, hz0, hz1, hz2⟩ := info_parts spot_info
          go_wp2_with (at_builtin; refine wpList_append_own _ rfl (.tmp 26) (.tmp 29) 39 rfl W.heap.size 24 i0 (.agg #[.int .i64 0, .int .i64 0]) 2 16 Try.underlying39 hi hz0 hz1 hz2 rfl (by decide) _ k (flat (l.take k)) rfl (HO3.out.alloc _) ⟨Y.heap.size, 0, none⟩ 1 1 [.int .i64 u, .int .i64 v] rfl rfl ?c1 ?c2 ?c3 ?c4 ?c5 ?_)
          case c1 =>
            intro j z hj
            match j, hj with
            | 0, hj => simp at hj; subst hj; simp [Addr.add]
            | 1, hj => simp at hj; subst hj; simp [Addr.add]
          case c2 => intro z hz; simp at hz; rcases hz with rfl | rfl <;> rfl
          case c3 => have h := HBD.out; unfold maxLen; omega
          case c4 => have h := HBD.out; omega
          case c5 => have h := HW3.out.size; simp; omega
          intro v2 w1 hown' hgrow _
          have HB1 := Lib.hid ((HW3.out.alloc HW3.out.size (.cells #[.int .i64 u, .int .i64 v] 24)).grown hgrow (by have h := HW3.out.size; simp; omega) (fun g hg => (HO3.out.lt g hg).1))
          have e2 : flat (l.take k) ++ [.int .i64 u, .int .i64 v] = flat (l.take (k + 1)) := flat_snoc l k (u, v) (by rw [HL.out]; exact hlt) HX.out
          rw [e2] at hown'
          have HO1 := Lib.hid hown'
          clear hown' hgrow e2
          go_wp2
          go_roundw
          case rel => exact ⟨k + 1, by omega, by go_num, HO1, HB1⟩
          case measure => simp [intOf] <;> omega
      · obtain rfl : len = k := by omega
        have h4 := HO.out
        rw [List.take_of_length_le (by rw [HL.out]; exact Nat.le_refl _)] at h4
        rw [← HL.out] at h4
        clear HO
        obtain ⟨a9, c9, rfl, hrow⟩ := SpotRow.of_own h4
        have HRW := Lib.hid hrow
        clear hrow h4
        rw [HL.out]
        replace Q0 := Lib.hid (Q0.out.keep HB.out)
        replace Q1 := Lib.hid (Q1.out.keep HB.out)
        replace Q2 := Lib.hid (Q2.out.keep HB.out)
        replace HW1 := Lib.hid (HW1.out.trans (HB.out.mono HW1.out.size))
        replace HR := Lib.hid (HR.out.below HB.out)
        clear HB
        have Q0a := Q0.out.c0
        have Q0b := Q0.out.c1
        go_wp2_with fail
        refine (to_any _ _ _).mono ?_
        rintro e Y ⟨rfl, hB⟩
        replace HW1 := Lib.hid (HW1.out.trans (hB.mono HW1.out.size))
        replace HRW := Lib.hid (HRW.out.below hB)
        replace Q0 := Lib.hid (Q0.out.keep hB)
        replace Q1 := Lib.hid (Q1.out.keep hB)
        replace Q2 := Lib.hid (Q2.out.keep hB)
        clear hB Q0a Q0b
        have HNE : Hid (∀ w, SpotRow w a9 l → Calls Try.prog 27 #[.agg #[.int .i64 x, .int .i64 y], .slice a9 len c9] w fun e w' => e = .returned (.int .i64 (nearP x y l)) ∧ Below w.heap.size w w') := Lib.hid fun w h => by
          have h2 := nearest_any x y a9 c9 l w h (by rw [HL.out]; omega)
          rw [HL.out] at h2
          exact h2
        go_wp2_with fail
        refine (HNE.out _ HRW.out).mono ?_
        rintro e Y2 ⟨rfl, hB⟩
        replace HW1 := Lib.hid (HW1.out.trans (hB.mono HW1.out.size))
        replace HRW := Lib.hid (HRW.out.below hB)
        replace Q0 := Lib.hid (Q0.out.keep hB)
        replace Q1 := Lib.hid (Q1.out.keep hB)
        replace Q2 := Lib.hid (Q2.out.keep hB)
        clear hB HNE
        have hnr := near_range x y l
        rw [HL.out] at hnr
        obtain ⟨N, hN⟩ : ∃ N, nearP x y l = N := ⟨_, rfl⟩
        rw [hN] at hnr
        rw [hN]
        have HNN := Lib.hid hN
        clear hN
        obtain ⟨hnr1, hnr2⟩ := hnr
        go_wp2
        go_loopw [14, 15, 38] (fun _ _ i wr => ∃ (k : Nat), k ≤ len ∧ i = .int .i64 k ∧ Hid (SpotRow wr a9 l) ∧ Hid (Pt wr w.heap.size 23 x y) ∧ Hid (Pt wr (w.heap.size + 1) 23 a b) ∧ Hid (Pt wr (w.heap.size + 1 + 1) 23 c d) ∧ Hid (Below w.heap.size w wr)) (fun _ _ i _ => len - (intOf i).toNat)
        case atStart => exact ⟨0, Nat.zero_le _, rfl, HRW, Q0, Q1, Q2, HW1⟩
        case round =>
          obtain ⟨k, hk, rfl, HRW, Q0, Q1, Q2, HW1⟩ := hrel
          by_cases hlt : k < len
          · obtain ⟨q, hq⟩ : ∃ q, l.getD k (0, 0) = q := ⟨_, rfl⟩
            obtain ⟨u, v⟩ := q
            rcases HRW.out with h0 | ⟨b9, o9, rfl, hb, hc⟩
            · exfalso; have h := HL.out; rw [h0] at h; simp at h; omega
            · obtain ⟨hc1, hc2⟩ := hc k (by rw [HL.out]; exact hlt)
              rw [hq] at hc1 hc2
              have HNB := Lib.hid (near_best x y l k (by rw [HL.out]; exact hlt))
              have hfk : farAt x y l k = farP x y u v := by unfold farAt; rw [hq]
              rw [hfk] at HNB
              clear hq hfk hc
              simp only at hc1 hc2
              go_upto_region 13 with fail
              have S0 : Hid (Pt (wr.alloc (.cells #[.int .i64 u, .int .i64 v] 24)) wr.heap.size 24 u v) := Lib.hid (Pt.mk_ rfl)
              have HA9 : Hid (Below wr.heap.size wr (wr.alloc (.cells #[.int .i64 u, .int .i64 v] 24))) := Lib.hid ((Below.refl _ _).alloc (Nat.le_refl _) _)
              replace HW1 := Lib.hid (HW1.out.trans (HA9.out.mono HW1.out.size))
              replace HRW := Lib.hid (HRW.out.below HA9.out)
              replace Q0 := Lib.hid (Q0.out.keep HA9.out)
              replace Q1 := Lib.hid (Q1.out.keep HA9.out)
              replace Q2 := Lib.hid (Q2.out.keep HA9.out)
              generalize wr.alloc (.cells #[.int .i64 u, .int .i64 v] 24) = B at HW1 HRW Q0 Q1 Q2 S0 ⊢
              generalize wr.heap.size = gS at S0 ⊢
              clear HA9 hc1 hc2
              have HF1 : Hid (∀ w, Calls Try.prog 25 #[.agg #[.int .i64 x, .int .i64 y], .agg #[.int .i64 u, .int .i64 v]] w fun e w' => e = .returned (.int .i64 (farP x y u v)) ∧ Below w.heap.size w w') := Lib.hid fun w => far_any x y u v w
              have HS1 : Hid (∀ w, Calls Try.prog 29 #[.agg #[.int .i64 a, .int .i64 b], .agg #[.int .i64 c, .int .i64 d], .agg #[.int .i64 u, .int .i64 v]] w fun e w' => e = .returned (.int .i64 (sideP a b c d u v)) ∧ Below w.heap.size w w') := Lib.hid fun w => side_any a b c d u v w
              have HS2 : Hid (∀ w, Calls Try.prog 29 #[.agg #[.int .i64 c, .int .i64 d], .agg #[.int .i64 a, .int .i64 b], .agg #[.int .i64 u, .int .i64 v]] w fun e w' => e = .returned (.int .i64 (-(sideP a b c d u v))) ∧ Below w.heap.size w w') := Lib.hid fun w => by
                have h := side_any c d a b u v w
                rw [side_neg2] at h
                exact h
              have hs1 := side_range a b c d u v
              have hf1 := far_bound x y u v
              generalize farP x y u v = f at HF1 HNB hf1
              generalize sideP a b c d u v = s1 at HS1 HS2 hs1
              obtain ⟨hs2, hs3⟩ := hs1
              have hws : IntKind.i64.wrap s1 = s1 := by rw [IntKind.wrap_i64]; omega
              obtain ⟨hf2, hf3⟩ := hf1
              refine wp_region_held_drew (S := fun w' => Below B.heap.size B w') (by kernel_rfl) (Below.refl _ _).drew (fun hHeld => ?_)
              have HSY0 : Hid (Below B.heap.size B B.drew) := Lib.hid hHeld
              generalize B.drew = Y0 at hHeld HSY0 ⊢
              refine wpAnyH_take (i := 0) (v := .agg #[.int .i64 x, .int .i64 y]) rfl (by kernel_rfl) (by kernel_rfl) (by kernel_rfl) (fun _ _ _ h => h) (Or.inl ⟨by rfl, by intro w' h; have k1 := (Q0.out.keep h).c0; have k2 := (Q0.out.keep h).c1; go_simp⟩) hHeld ?_
              show wpAnyH _ _ _ _ _ _ _ (Act.put _ (some 42) _) _
              simp only [Act.put, List.setIfInBounds_toArray, List.set_cons_zero, List.set_cons_succ]
              refine wpAnyH_take (i := 2) (v := .agg #[.int .i64 u, .int .i64 v]) rfl (by kernel_rfl) (by kernel_rfl) (by kernel_rfl) (fun _ _ _ h => h) (Or.inl ⟨by rfl, by intro w' h; have k1 := (S0.out.keep h).c0; have k2 := (S0.out.keep h).c1; go_simp⟩) hHeld ?_
              show wpAnyH _ _ _ _ _ _ _ (Act.put _ (some 44) _) _
              simp only [Act.put, List.setIfInBounds_toArray, List.set_cons_zero, List.set_cons_succ]
              refine wpAnyH_ready (rs := [1]) (by kernel_rfl) (by simp) ?_
              refine AllReadyH.cons rfl (fun K hK => ?_) AllReadyH.nil
              refine step_call rfl 14 #[.tmp 42] #[23] rfl #[.agg #[.int .i64 x, .int .i64 y]] (by simp [Act.eval]) (by go_simp) (to_any _ _ _) ?_
              rintro e Y1 ⟨rfl, hB⟩
              have HSY1 := Lib.hid (HSY0.out.trans (hB.mono HSY0.out.size))
              clear hB HSY0
              refine ⟨_, rfl, hK.out _ _ HSY1.out (fun hHeld => ?_)⟩
              clear hK K
              show wpAnyH _ _ _ _ _ _ _ (Act.put _ (some 43) _) _
              simp only [Act.put, List.setIfInBounds_toArray, List.set_cons_zero, List.set_cons_succ]
              refine wpAnyH_ready (rs := [3]) (by kernel_rfl) (by simp) ?_
              refine AllReadyH.cons rfl (fun K hK => ?_) AllReadyH.nil
              refine step_call rfl 25 #[.tmp 43, .tmp 44] #[24, 24] rfl #[.agg #[.int .i64 x, .int .i64 y], .agg #[.int .i64 u, .int .i64 v]] (by simp [Act.eval]) (by go_simp) (HF1.out Y1) ?_
              rintro e Y2 ⟨rfl, hB⟩
              have HSY2 := Lib.hid (HSY1.out.trans (hB.mono HSY1.out.size))
              clear hB HSY1
              refine ⟨_, rfl, hK.out _ _ HSY2.out (fun hHeld => ?_)⟩
              clear hK K
              show wpAnyH _ _ _ _ _ _ _ (Act.put _ (some 45) _) _
              simp only [Act.put, List.setIfInBounds_toArray, List.set_cons_zero, List.set_cons_succ]
              refine wpAnyH_take (i := 4) (v := .int .i64 f) rfl (by kernel_rfl) (by kernel_rfl) (by kernel_rfl) (fun _ _ _ h => h) (Or.inl ⟨by rfl, fun w _ => by rfl⟩) hHeld ?_
              show wpAnyH _ _ _ _ _ _ _ (Act.put _ (some 15) _) _
              simp only [Act.put, List.setIfInBounds_toArray, List.set_cons_zero, List.set_cons_succ]
              refine wpAnyH_done (by kernel_rfl) ?_ _
              replace HW1 := Lib.hid (HW1.out.trans (HSY2.out.mono HW1.out.size))
              replace HRW := Lib.hid (HRW.out.below HSY2.out)
              replace Q0 := Lib.hid (Q0.out.keep HSY2.out)
              replace Q1 := Lib.hid (Q1.out.keep HSY2.out)
              replace Q2 := Lib.hid (Q2.out.keep HSY2.out)
              replace S0 := Lib.hid (S0.out.keep HSY2.out)
              clear HSY2 hHeld
              by_cases h0 : 0 ≤ f
              · obtain ⟨j, hj1, hj2, hj3⟩ := HNB.out h0
                have hjl : j < len := by rw [← HL.out]; exact hj2
                rcases HRW.out with h8 | ⟨b8, o8, h8, hb8, hc8⟩
                · exfalso; have h := HL.out; rw [h8] at h; simp at h; omega
                · simp only [Option.some.injEq, Addr.mk.injEq] at h8
                  obtain ⟨rfl, rfl, _⟩ := h8
                  obtain ⟨q, hq⟩ : ∃ q, l.getD j (0, 0) = q := ⟨_, rfl⟩
                  obtain ⟨u2, v2⟩ := q
                  have hcj := hc8 j hj2
                  rw [hq] at hcj
                  have HJ : Hid (∀ w', Below Y2.heap.size Y2 w' → w'.cell? ⟨b9, o9 + j * 2, none⟩ = some (.int .i64 u2) ∧ w'.cell? ⟨b9, o9 + j * 2 + 1, none⟩ = some (.int .i64 v2)) := Lib.hid fun w' h => ⟨(h.cell (p := ⟨b9, o9 + j * 2, none⟩) hb8).trans hcj.1, (h.cell (p := ⟨b9, o9 + j * 2 + 1, none⟩) hb8).trans hcj.2⟩
                  have hfe : farAt x y l j = farP x y u2 v2 := by unfold farAt; rw [hq]
                  rw [hfe] at hj3
                  have HF2 : Hid (∀ w, Calls Try.prog 25 #[.agg #[.int .i64 x, .int .i64 y], .agg #[.int .i64 u2, .int .i64 v2]] w fun e w' => e = .returned (.int .i64 (farP x y u2 v2)) ∧ Below w.heap.size w w') := Lib.hid fun w => far_any x y u2 v2 w
                  generalize farP x y u2 v2 = f2 at HF2 hj3
                  clear hfe hq hcj hc8 HNB
                  have hn1 : (0 : Int) ≤ (j : Int) := by omega
                  have hn2 : (j : Int) < (len : Int) := by omega
                  have hn3 : ¬ ((j : Int) < 0) := by omega
                  have hn4 : ¬ ((len : Int) ≤ (j : Int)) := by omega
                  have hn5 : ¬ (f < f2) := by omega
                  obtain rfl : N = (j : Int) := by rw [← HNN.out]; exact hj1
                  go_upto_region 14 with fail
                  refine wp_region_held_drew (S := fun w' => Below Y2.heap.size Y2 w') (by kernel_rfl) (Below.refl _ _).drew (fun hHeld => ?_)
                  have HSV0 : Hid (Below Y2.heap.size Y2 Y2.drew) := Lib.hid hHeld
                  generalize Y2.drew = V0 at hHeld HSV0 ⊢
                  refine wpAnyH_take (i := 0) (v := .int .i64 f) rfl (by kernel_rfl) (by kernel_rfl) (by kernel_rfl) (fun _ _ _ h => h) (Or.inl ⟨by rfl, fun w _ => by rfl⟩) hHeld ?_
                  show wpAnyH _ _ _ _ _ _ _ (Act.put _ (some 46) _) _
                  simp only [Act.put, List.setIfInBounds_toArray, List.set_cons_zero, List.set_cons_succ]
                  refine wpAnyH_take (i := 1) (v := .bool true) rfl (by kernel_rfl) (by kernel_rfl) (by kernel_rfl) (fun _ _ _ h => h) (Or.inl ⟨by rfl, by intro w' _; go_simp⟩) hHeld ?_
                  show wpAnyH _ _ _ _ _ _ _ (Act.put _ (some 47) _) _
                  simp only [Act.put, List.setIfInBounds_toArray, List.set_cons_zero, List.set_cons_succ]
                  refine wpAnyH_take (i := 2) (v := .bool true) rfl (by kernel_rfl) (by kernel_rfl) (by kernel_rfl) (fun _ _ _ h => h) (Or.inl ⟨by rfl, fun w _ => by rfl⟩) hHeld ?_
                  show wpAnyH _ _ _ _ _ _ _ (Act.put _ (some 48) _) _
                  simp only [Act.put, List.setIfInBounds_toArray, List.set_cons_zero, List.set_cons_succ]
                  refine wpAnyH_take (i := 3) (v := .int .i64 (j : Int)) rfl (by kernel_rfl) (by kernel_rfl) (by kernel_rfl) (fun _ _ _ h => h) (Or.inl ⟨by rfl, fun w _ => by rfl⟩) hHeld ?_
                  show wpAnyH _ _ _ _ _ _ _ (Act.put _ (some 49) _) _
                  simp only [Act.put, List.setIfInBounds_toArray, List.set_cons_zero, List.set_cons_succ]
                  refine wpAnyH_take (i := 4) (v := .bool false) rfl (by kernel_rfl) (by kernel_rfl) (by kernel_rfl) (fun _ _ _ h => h) (Or.inl ⟨by rfl, by intro w' _; go_simp⟩) hHeld ?_
                  show wpAnyH _ _ _ _ _ _ _ (Act.put _ (some 50) _) _
                  simp only [Act.put, List.setIfInBounds_toArray, List.set_cons_zero, List.set_cons_succ]
                  refine wpAnyH_take (i := 5) (v := .bool false) rfl (by kernel_rfl) (by kernel_rfl) (by kernel_rfl) (fun _ _ _ h => h) (Or.inl ⟨by rfl, fun w _ => by rfl⟩) hHeld ?_
                  show wpAnyH _ _ _ _ _ _ _ (Act.put _ (some 51) _) _
                  simp only [Act.put, List.setIfInBounds_toArray, List.set_cons_zero, List.set_cons_succ]
                  refine wpAnyH_take (i := 6) (v := .int .i64 (j : Int)) rfl (by kernel_rfl) (by kernel_rfl) (by kernel_rfl) (fun _ _ _ h => h) (Or.inl ⟨by rfl, fun w _ => by rfl⟩) hHeld ?_
                  show wpAnyH _ _ _ _ _ _ _ (Act.put _ (some 52) _) _
                  simp only [Act.put, List.setIfInBounds_toArray, List.set_cons_zero, List.set_cons_succ]
                  refine wpAnyH_take (i := 7) (v := .slice (some ⟨b9, o9, none⟩) len c9) rfl (by kernel_rfl) (by kernel_rfl) (by kernel_rfl) (fun _ _ _ h => h) (Or.inl ⟨by rfl, fun w _ => by rfl⟩) hHeld ?_
                  show wpAnyH _ _ _ _ _ _ _ (Act.put _ (some 53) _) _
                  simp only [Act.put, List.setIfInBounds_toArray, List.set_cons_zero, List.set_cons_succ]
                  refine wpAnyH_take (i := 8) (v := .int .i64 (len : Int)) rfl (by kernel_rfl) (by kernel_rfl) (by kernel_rfl) (fun _ _ _ h => h) (Or.inl ⟨by rfl, by intro w' _; go_simp⟩) hHeld ?_
                  show wpAnyH _ _ _ _ _ _ _ (Act.put _ (some 54) _) _
                  simp only [Act.put, List.setIfInBounds_toArray, List.set_cons_zero, List.set_cons_succ]
                  refine wpAnyH_take (i := 9) (v := .bool false) rfl (by kernel_rfl) (by kernel_rfl) (by kernel_rfl) (fun _ _ _ h => h) (Or.inl ⟨by rfl, by intro w' _; go_simp⟩) hHeld ?_
                  show wpAnyH _ _ _ _ _ _ _ (Act.put _ (some 55) _) _
                  simp only [Act.put, List.setIfInBounds_toArray, List.set_cons_zero, List.set_cons_succ]
                  refine wpAnyH_take (i := 10) (v := .bool false) rfl (by kernel_rfl) (by kernel_rfl) (by kernel_rfl) (fun _ _ _ h => h) (Or.inl ⟨by rfl, by intro w hSw; first | rfl | go_simp⟩) hHeld ?_
                  show wpAnyH _ _ _ _ _ _ _ (Act.put _ (some 56) _) _
                  simp only [Act.put, List.setIfInBounds_toArray, List.set_cons_zero, List.set_cons_succ]
                  refine wpAnyH_take (i := 11) (v := .bool false) rfl (by kernel_rfl) (by kernel_rfl) (by kernel_rfl) (fun _ _ _ h => h) (Or.inl ⟨by rfl, fun w _ => by rfl⟩) hHeld ?_
                  show wpAnyH _ _ _ _ _ _ _ (Act.put _ (some 57) _) _
                  simp only [Act.put, List.setIfInBounds_toArray, List.set_cons_zero, List.set_cons_succ]
                  refine wpAnyH_take (i := 12) (v := .agg #[.int .i64 x, .int .i64 y]) rfl (by kernel_rfl) (by kernel_rfl) (by kernel_rfl) (fun _ _ _ h => h) (Or.inl ⟨by rfl, by intro w' h; have k1 := (Q0.out.keep h).c0; have k2 := (Q0.out.keep h).c1; go_simp⟩) hHeld ?_
                  show wpAnyH _ _ _ _ _ _ _ (Act.put _ (some 58) _) _
                  simp only [Act.put, List.setIfInBounds_toArray, List.set_cons_zero, List.set_cons_succ]
                  refine wpAnyH_take (i := 14) (v := .slice (some ⟨b9, o9, none⟩) len c9) rfl (by kernel_rfl) (by kernel_rfl) (by kernel_rfl) (fun _ _ _ h => h) (Or.inl ⟨by rfl, fun w _ => by rfl⟩) hHeld ?_
                  show wpAnyH _ _ _ _ _ _ _ (Act.put _ (some 60) _) _
                  simp only [Act.put, List.setIfInBounds_toArray, List.set_cons_zero, List.set_cons_succ]
                  refine wpAnyH_take (i := 15) (v := .int .i64 (j : Int)) rfl (by kernel_rfl) (by kernel_rfl) (by kernel_rfl) (fun _ _ _ h => h) (Or.inl ⟨by rfl, fun w _ => by rfl⟩) hHeld ?_
                  show wpAnyH _ _ _ _ _ _ _ (Act.put _ (some 61) _) _
                  simp only [Act.put, List.setIfInBounds_toArray, List.set_cons_zero, List.set_cons_succ]
                  refine wpAnyH_take (i := 16) (v := .pointer (some ⟨b9, o9 + j * 2, none⟩)) rfl (by kernel_rfl) (by kernel_rfl) (by kernel_rfl) (fun _ _ _ h => h) (Or.inl ⟨by rfl, by intro w' _; go_simp⟩) hHeld ?_
                  show wpAnyH _ _ _ _ _ _ _ (Act.put _ (some 62) _) _
                  simp only [Act.put, List.setIfInBounds_toArray, List.set_cons_zero, List.set_cons_succ]
                  refine wpAnyH_take (i := 17) (v := .agg #[.int .i64 u2, .int .i64 v2]) rfl (by kernel_rfl) (by kernel_rfl) (by kernel_rfl) (fun _ _ _ h => h) (Or.inl ⟨by rfl, by intro w' h; have k1 := (HJ.out w' h).1; have k2 := (HJ.out w' h).2; go_simp⟩) hHeld ?_
                  show wpAnyH _ _ _ _ _ _ _ (Act.put _ (some 63) _) _
                  simp only [Act.put, List.setIfInBounds_toArray, List.set_cons_zero, List.set_cons_succ]
                  refine wpAnyH_take (i := 19) (v := .int .i64 f) rfl (by kernel_rfl) (by kernel_rfl) (by kernel_rfl) (fun _ _ _ h => h) (Or.inl ⟨by rfl, fun w _ => by rfl⟩) hHeld ?_
                  show wpAnyH _ _ _ _ _ _ _ (Act.put _ (some 65) _) _
                  simp only [Act.put, List.setIfInBounds_toArray, List.set_cons_zero, List.set_cons_succ]
                  refine wpAnyH_ready (rs := [13]) (by kernel_rfl) (by simp) ?_
                  refine AllReadyH.cons rfl (fun K hK => ?_) AllReadyH.nil
                  refine step_call rfl 14 #[.tmp 58] #[23] rfl #[.agg #[.int .i64 x, .int .i64 y]] (by simp [Act.eval]) (by go_simp) (to_any _ _ _) ?_
                  rintro e V1 ⟨rfl, hB⟩
                  have HSV1 := Lib.hid (HSV0.out.trans (hB.mono HSV0.out.size))
                  clear hB HSV0
                  refine ⟨_, rfl, hK.out _ _ HSV1.out (fun hHeld => ?_)⟩
                  clear hK K
                  show wpAnyH _ _ _ _ _ _ _ (Act.put _ (some 59) _) _
                  simp only [Act.put, List.setIfInBounds_toArray, List.set_cons_zero, List.set_cons_succ]
                  refine wpAnyH_ready (rs := [18]) (by kernel_rfl) (by simp) ?_
                  refine AllReadyH.cons rfl (fun K hK => ?_) AllReadyH.nil
                  refine step_call rfl 25 #[.tmp 59, .tmp 63] #[24, 24] rfl #[.agg #[.int .i64 x, .int .i64 y], .agg #[.int .i64 u2, .int .i64 v2]] (by simp [Act.eval]) (by go_simp) (HF2.out V1) ?_
                  rintro e V2 ⟨rfl, hB⟩
                  have HSV2 := Lib.hid (HSV1.out.trans (hB.mono HSV1.out.size))
                  clear hB HSV1
                  refine ⟨_, rfl, hK.out _ _ HSV2.out (fun hHeld => ?_)⟩
                  clear hK K
                  show wpAnyH _ _ _ _ _ _ _ (Act.put _ (some 64) _) _
                  simp only [Act.put, List.setIfInBounds_toArray, List.set_cons_zero, List.set_cons_succ]
                  refine wpAnyH_take (i := 20) (v := .bool false) rfl (by kernel_rfl) (by kernel_rfl) (by kernel_rfl) (fun _ _ _ h => h) (Or.inl ⟨by rfl, by intro w' _; go_simp⟩) hHeld ?_
                  show wpAnyH _ _ _ _ _ _ _ (Act.put _ (some 66) _) _
                  simp only [Act.put, List.setIfInBounds_toArray, List.set_cons_zero, List.set_cons_succ]
                  refine wpAnyH_take (i := 21) (v := .bool false) rfl (by kernel_rfl) (by kernel_rfl) (by kernel_rfl) (fun _ _ _ h => h) (Or.inl ⟨by rfl, by intro w hSw; first | rfl | go_simp⟩) hHeld ?_
                  show wpAnyH _ _ _ _ _ _ _ (Act.put _ (some 67) _) _
                  simp only [Act.put, List.setIfInBounds_toArray, List.set_cons_zero, List.set_cons_succ]
                  refine wpAnyH_take (i := 22) (v := .bool false) rfl (by kernel_rfl) (by kernel_rfl) (by kernel_rfl) (fun _ _ _ h => h) (Or.inl ⟨by rfl, by intro w hSw; first | rfl | go_simp⟩) hHeld ?_
                  show wpAnyH _ _ _ _ _ _ _ (Act.put _ (some 68) _) _
                  simp only [Act.put, List.setIfInBounds_toArray, List.set_cons_zero, List.set_cons_succ]
                  refine wpAnyH_done (by kernel_rfl) ?_ _
                  replace HW1 := Lib.hid (HW1.out.trans (HSV2.out.mono HW1.out.size))
                  replace HRW := Lib.hid (HRW.out.below HSV2.out)
                  replace Q0 := Lib.hid (Q0.out.keep HSV2.out)
                  replace Q1 := Lib.hid (Q1.out.keep HSV2.out)
                  replace Q2 := Lib.hid (Q2.out.keep HSV2.out)
                  replace S0 := Lib.hid (S0.out.keep HSV2.out)
                  clear HSV2 hHeld
                  go_upto_region 16 with fail
                  refine wp_region_held_drew (S := fun w' => Below V2.heap.size V2 w') (by kernel_rfl) (Below.refl _ _).drew (fun hHeld => ?_)
                  have HSZ0 : Hid (Below V2.heap.size V2 V2.drew) := Lib.hid hHeld
                  generalize V2.drew = Z0 at hHeld HSZ0 ⊢
                  refine wpAnyH_take (i := 0) (v := .agg #[.int .i64 a, .int .i64 b]) rfl (by kernel_rfl) (by kernel_rfl) (by kernel_rfl) (fun _ _ _ h => h) (Or.inl ⟨by rfl, by intro w' h; have k1 := (Q1.out.keep h).c0; have k2 := (Q1.out.keep h).c1; go_simp⟩) hHeld ?_
                  show wpAnyH _ _ _ _ _ _ _ (Act.put _ (some 69) _) _
                  simp only [Act.put, List.setIfInBounds_toArray, List.set_cons_zero, List.set_cons_succ]
                  refine wpAnyH_take (i := 2) (v := .agg #[.int .i64 c, .int .i64 d]) rfl (by kernel_rfl) (by kernel_rfl) (by kernel_rfl) (fun _ _ _ h => h) (Or.inl ⟨by rfl, by intro w' h; have k1 := (Q2.out.keep h).c0; have k2 := (Q2.out.keep h).c1; go_simp⟩) hHeld ?_
                  show wpAnyH _ _ _ _ _ _ _ (Act.put _ (some 71) _) _
                  simp only [Act.put, List.setIfInBounds_toArray, List.set_cons_zero, List.set_cons_succ]
                  refine wpAnyH_take (i := 4) (v := .agg #[.int .i64 u, .int .i64 v]) rfl (by kernel_rfl) (by kernel_rfl) (by kernel_rfl) (fun _ _ _ h => h) (Or.inl ⟨by rfl, by intro w' h; have k1 := (S0.out.keep h).c0; have k2 := (S0.out.keep h).c1; go_simp⟩) hHeld ?_
                  show wpAnyH _ _ _ _ _ _ _ (Act.put _ (some 73) _) _
                  simp only [Act.put, List.setIfInBounds_toArray, List.set_cons_zero, List.set_cons_succ]
                  refine wpAnyH_take (i := 6) (v := .agg #[.int .i64 c, .int .i64 d]) rfl (by kernel_rfl) (by kernel_rfl) (by kernel_rfl) (fun _ _ _ h => h) (Or.inl ⟨by rfl, by intro w' h; have k1 := (Q2.out.keep h).c0; have k2 := (Q2.out.keep h).c1; go_simp⟩) hHeld ?_
                  show wpAnyH _ _ _ _ _ _ _ (Act.put _ (some 75) _) _
                  simp only [Act.put, List.setIfInBounds_toArray, List.set_cons_zero, List.set_cons_succ]
                  refine wpAnyH_take (i := 8) (v := .agg #[.int .i64 a, .int .i64 b]) rfl (by kernel_rfl) (by kernel_rfl) (by kernel_rfl) (fun _ _ _ h => h) (Or.inl ⟨by rfl, by intro w' h; have k1 := (Q1.out.keep h).c0; have k2 := (Q1.out.keep h).c1; go_simp⟩) hHeld ?_
                  show wpAnyH _ _ _ _ _ _ _ (Act.put _ (some 77) _) _
                  simp only [Act.put, List.setIfInBounds_toArray, List.set_cons_zero, List.set_cons_succ]
                  refine wpAnyH_take (i := 10) (v := .agg #[.int .i64 u, .int .i64 v]) rfl (by kernel_rfl) (by kernel_rfl) (by kernel_rfl) (fun _ _ _ h => h) (Or.inl ⟨by rfl, by intro w' h; have k1 := (S0.out.keep h).c0; have k2 := (S0.out.keep h).c1; go_simp⟩) hHeld ?_
                  show wpAnyH _ _ _ _ _ _ _ (Act.put _ (some 79) _) _
                  simp only [Act.put, List.setIfInBounds_toArray, List.set_cons_zero, List.set_cons_succ]
                  refine wpAnyH_ready (rs := [1]) (by kernel_rfl) (by simp) ?_
                  refine AllReadyH.cons rfl (fun K hK => ?_) AllReadyH.nil
                  refine step_call rfl 14 #[.tmp 69] #[23] rfl #[.agg #[.int .i64 a, .int .i64 b]] (by simp [Act.eval]) (by go_simp) (to_any _ _ _) ?_
                  rintro e Z1 ⟨rfl, hB⟩
                  have HSZ1 := Lib.hid (HSZ0.out.trans (hB.mono HSZ0.out.size))
                  clear hB HSZ0
                  refine ⟨_, rfl, hK.out _ _ HSZ1.out (fun hHeld => ?_)⟩
                  clear hK K
                  show wpAnyH _ _ _ _ _ _ _ (Act.put _ (some 70) _) _
                  simp only [Act.put, List.setIfInBounds_toArray, List.set_cons_zero, List.set_cons_succ]
                  refine wpAnyH_ready (rs := [3]) (by kernel_rfl) (by simp) ?_
                  refine AllReadyH.cons rfl (fun K hK => ?_) AllReadyH.nil
                  refine step_call rfl 14 #[.tmp 71] #[23] rfl #[.agg #[.int .i64 c, .int .i64 d]] (by simp [Act.eval]) (by go_simp) (to_any _ _ _) ?_
                  rintro e Z2 ⟨rfl, hB⟩
                  have HSZ2 := Lib.hid (HSZ1.out.trans (hB.mono HSZ1.out.size))
                  clear hB HSZ1
                  refine ⟨_, rfl, hK.out _ _ HSZ2.out (fun hHeld => ?_)⟩
                  clear hK K
                  show wpAnyH _ _ _ _ _ _ _ (Act.put _ (some 72) _) _
                  simp only [Act.put, List.setIfInBounds_toArray, List.set_cons_zero, List.set_cons_succ]
                  refine wpAnyH_ready (rs := [5]) (by kernel_rfl) (by simp) ?_
                  refine AllReadyH.cons rfl (fun K hK => ?_) AllReadyH.nil
                  refine step_call rfl 29 #[.tmp 70, .tmp 72, .tmp 73] #[24, 24, 24] rfl #[.agg #[.int .i64 a, .int .i64 b], .agg #[.int .i64 c, .int .i64 d], .agg #[.int .i64 u, .int .i64 v]] (by simp [Act.eval]) (by go_simp) (HS1.out Z2) ?_
                  rintro e Z3 ⟨rfl, hB⟩
                  have HSZ3 := Lib.hid (HSZ2.out.trans (hB.mono HSZ2.out.size))
                  clear hB HSZ2
                  refine ⟨_, rfl, hK.out _ _ HSZ3.out (fun hHeld => ?_)⟩
                  clear hK K
                  show wpAnyH _ _ _ _ _ _ _ (Act.put _ (some 74) _) _
                  simp only [Act.put, List.setIfInBounds_toArray, List.set_cons_zero, List.set_cons_succ]
                  refine wpAnyH_ready (rs := [7]) (by kernel_rfl) (by simp) ?_
                  refine AllReadyH.cons rfl (fun K hK => ?_) AllReadyH.nil
                  refine step_call rfl 14 #[.tmp 75] #[23] rfl #[.agg #[.int .i64 c, .int .i64 d]] (by simp [Act.eval]) (by go_simp) (to_any _ _ _) ?_
                  rintro e Z4 ⟨rfl, hB⟩
                  have HSZ4 := Lib.hid (HSZ3.out.trans (hB.mono HSZ3.out.size))
                  clear hB HSZ3
                  refine ⟨_, rfl, hK.out _ _ HSZ4.out (fun hHeld => ?_)⟩
                  clear hK K
                  show wpAnyH _ _ _ _ _ _ _ (Act.put _ (some 76) _) _
                  simp only [Act.put, List.setIfInBounds_toArray, List.set_cons_zero, List.set_cons_succ]
                  refine wpAnyH_ready (rs := [9]) (by kernel_rfl) (by simp) ?_
                  refine AllReadyH.cons rfl (fun K hK => ?_) AllReadyH.nil
                  refine step_call rfl 14 #[.tmp 77] #[23] rfl #[.agg #[.int .i64 a, .int .i64 b]] (by simp [Act.eval]) (by go_simp) (to_any _ _ _) ?_
                  rintro e Z5 ⟨rfl, hB⟩
                  have HSZ5 := Lib.hid (HSZ4.out.trans (hB.mono HSZ4.out.size))
                  clear hB HSZ4
                  refine ⟨_, rfl, hK.out _ _ HSZ5.out (fun hHeld => ?_)⟩
                  clear hK K
                  show wpAnyH _ _ _ _ _ _ _ (Act.put _ (some 78) _) _
                  simp only [Act.put, List.setIfInBounds_toArray, List.set_cons_zero, List.set_cons_succ]
                  refine wpAnyH_ready (rs := [11]) (by kernel_rfl) (by simp) ?_
                  refine AllReadyH.cons rfl (fun K hK => ?_) AllReadyH.nil
                  refine step_call rfl 29 #[.tmp 76, .tmp 78, .tmp 79] #[24, 24, 24] rfl #[.agg #[.int .i64 c, .int .i64 d], .agg #[.int .i64 a, .int .i64 b], .agg #[.int .i64 u, .int .i64 v]] (by simp [Act.eval]) (by go_simp) (HS2.out Z5) ?_
                  rintro e Z6 ⟨rfl, hB⟩
                  have HSZ6 := Lib.hid (HSZ5.out.trans (hB.mono HSZ5.out.size))
                  clear hB HSZ5
                  refine ⟨_, rfl, hK.out _ _ HSZ6.out (fun hHeld => ?_)⟩
                  clear hK K
                  show wpAnyH _ _ _ _ _ _ _ (Act.put _ (some 80) _) _
                  simp only [Act.put, List.setIfInBounds_toArray, List.set_cons_zero, List.set_cons_succ]
                  refine wpAnyH_take (i := 12) (v := .int .i64 s1) rfl (by kernel_rfl) (by kernel_rfl) (by kernel_rfl) (fun _ _ _ h => h) (Or.inl ⟨by rfl, by intro w' _; go_simp⟩) hHeld ?_
                  show wpAnyH _ _ _ _ _ _ _ (Act.put _ (some 81) _) _
                  simp only [Act.put, List.setIfInBounds_toArray, List.set_cons_zero, List.set_cons_succ]
                  refine wpAnyH_take (i := 13) (v := .bool false) rfl (by kernel_rfl) (by kernel_rfl) (by kernel_rfl) (fun _ _ _ h => h) (Or.inl ⟨by rfl, by intro w' _; go_simp⟩) hHeld ?_
                  show wpAnyH _ _ _ _ _ _ _ (Act.put _ (some 82) _) _
                  simp only [Act.put, List.setIfInBounds_toArray, List.set_cons_zero, List.set_cons_succ]
                  refine wpAnyH_done (by kernel_rfl) ?_ _
                  replace HW1 := Lib.hid (HW1.out.trans (HSZ6.out.mono HW1.out.size))
                  replace HRW := Lib.hid (HRW.out.below HSZ6.out)
                  replace Q0 := Lib.hid (Q0.out.keep HSZ6.out)
                  replace Q1 := Lib.hid (Q1.out.keep HSZ6.out)
                  replace Q2 := Lib.hid (Q2.out.keep HSZ6.out)
                  clear HSZ6 hHeld
                  go_wp2
                  go_roundw
                  case rel => exact ⟨k + 1, by omega, by go_num, HRW, Q0, Q1, Q2, HW1⟩
                  case measure => simp [intOf] <;> omega
              · have hn1 : ¬ (0 ≤ f) := h0
                go_upto_region 14 with fail
                refine wp_region_held_drew (S := fun w' => Below Y2.heap.size Y2 w') (by kernel_rfl) (Below.refl _ _).drew (fun hHeld => ?_)
                have HSV0 : Hid (Below Y2.heap.size Y2 Y2.drew) := Lib.hid hHeld
                generalize Y2.drew = V0 at hHeld HSV0 ⊢
                refine wpAnyH_take (i := 0) (v := .int .i64 f) rfl (by kernel_rfl) (by kernel_rfl) (by kernel_rfl) (fun _ _ _ h => h) (Or.inl ⟨by rfl, fun w _ => by rfl⟩) hHeld ?_
                show wpAnyH _ _ _ _ _ _ _ (Act.put _ (some 46) _) _
                simp only [Act.put, List.setIfInBounds_toArray, List.set_cons_zero, List.set_cons_succ]
                refine wpAnyH_take (i := 1) (v := .bool false) rfl (by kernel_rfl) (by kernel_rfl) (by kernel_rfl) (fun _ _ _ h => h) (Or.inl ⟨by rfl, by intro w' _; go_simp⟩) hHeld ?_
                show wpAnyH _ _ _ _ _ _ _ (Act.put _ (some 47) _) _
                simp only [Act.put, List.setIfInBounds_toArray, List.set_cons_zero, List.set_cons_succ]
                refine wpAnyH_take (i := 2) (v := .bool false) rfl (by kernel_rfl) (by kernel_rfl) (by kernel_rfl) (fun _ _ _ h => h) (Or.inl ⟨by rfl, fun w _ => by rfl⟩) hHeld ?_
                show wpAnyH _ _ _ _ _ _ _ (Act.put _ (some 48) _) _
                simp only [Act.put, List.setIfInBounds_toArray, List.set_cons_zero, List.set_cons_succ]
                refine wpAnyH_take (i := 3) (v := undef) rfl (by kernel_rfl) (by kernel_rfl) (by kernel_rfl) (fun _ _ _ h => h) (Or.inr ⟨by rfl, rfl⟩) hHeld ?_
                show wpAnyH _ _ _ _ _ _ _ (Act.put _ (some 49) _) _
                simp only [Act.put, List.setIfInBounds_toArray, List.set_cons_zero, List.set_cons_succ]
                refine wpAnyH_take (i := 4) (v := undef) rfl (by kernel_rfl) (by kernel_rfl) (by kernel_rfl) (fun _ _ _ h => h) (Or.inr ⟨by rfl, rfl⟩) hHeld ?_
                show wpAnyH _ _ _ _ _ _ _ (Act.put _ (some 50) _) _
                simp only [Act.put, List.setIfInBounds_toArray, List.set_cons_zero, List.set_cons_succ]
                refine wpAnyH_take (i := 5) (v := undef) rfl (by kernel_rfl) (by kernel_rfl) (by kernel_rfl) (fun _ _ _ h => h) (Or.inr ⟨by rfl, rfl⟩) hHeld ?_
                show wpAnyH _ _ _ _ _ _ _ (Act.put _ (some 51) _) _
                simp only [Act.put, List.setIfInBounds_toArray, List.set_cons_zero, List.set_cons_succ]
                refine wpAnyH_take (i := 6) (v := undef) rfl (by kernel_rfl) (by kernel_rfl) (by kernel_rfl) (fun _ _ _ h => h) (Or.inr ⟨by rfl, rfl⟩) hHeld ?_
                show wpAnyH _ _ _ _ _ _ _ (Act.put _ (some 52) _) _
                simp only [Act.put, List.setIfInBounds_toArray, List.set_cons_zero, List.set_cons_succ]
                refine wpAnyH_take (i := 7) (v := undef) rfl (by kernel_rfl) (by kernel_rfl) (by kernel_rfl) (fun _ _ _ h => h) (Or.inr ⟨by rfl, rfl⟩) hHeld ?_
                show wpAnyH _ _ _ _ _ _ _ (Act.put _ (some 53) _) _
                simp only [Act.put, List.setIfInBounds_toArray, List.set_cons_zero, List.set_cons_succ]
                refine wpAnyH_take (i := 8) (v := undef) rfl (by kernel_rfl) (by kernel_rfl) (by kernel_rfl) (fun _ _ _ h => h) (Or.inr ⟨by rfl, rfl⟩) hHeld ?_
                show wpAnyH _ _ _ _ _ _ _ (Act.put _ (some 54) _) _
                simp only [Act.put, List.setIfInBounds_toArray, List.set_cons_zero, List.set_cons_succ]
                refine wpAnyH_take (i := 9) (v := undef) rfl (by kernel_rfl) (by kernel_rfl) (by kernel_rfl) (fun _ _ _ h => h) (Or.inr ⟨by rfl, rfl⟩) hHeld ?_
                show wpAnyH _ _ _ _ _ _ _ (Act.put _ (some 55) _) _
                simp only [Act.put, List.setIfInBounds_toArray, List.set_cons_zero, List.set_cons_succ]
                refine wpAnyH_take (i := 10) (v := undef) rfl (by kernel_rfl) (by kernel_rfl) (by kernel_rfl) (fun _ _ _ h => h) (Or.inr ⟨by rfl, rfl⟩) hHeld ?_
                show wpAnyH _ _ _ _ _ _ _ (Act.put _ (some 56) _) _
                simp only [Act.put, List.setIfInBounds_toArray, List.set_cons_zero, List.set_cons_succ]
                refine wpAnyH_take (i := 11) (v := undef) rfl (by kernel_rfl) (by kernel_rfl) (by kernel_rfl) (fun _ _ _ h => h) (Or.inr ⟨by rfl, rfl⟩) hHeld ?_
                show wpAnyH _ _ _ _ _ _ _ (Act.put _ (some 57) _) _
                simp only [Act.put, List.setIfInBounds_toArray, List.set_cons_zero, List.set_cons_succ]
                refine wpAnyH_take (i := 12) (v := undef) rfl (by kernel_rfl) (by kernel_rfl) (by kernel_rfl) (fun _ _ _ h => h) (Or.inr ⟨by rfl, rfl⟩) hHeld ?_
                show wpAnyH _ _ _ _ _ _ _ (Act.put _ (some 58) _) _
                simp only [Act.put, List.setIfInBounds_toArray, List.set_cons_zero, List.set_cons_succ]
                refine wpAnyH_take (i := 14) (v := undef) rfl (by kernel_rfl) (by kernel_rfl) (by kernel_rfl) (fun _ _ _ h => h) (Or.inr ⟨by rfl, rfl⟩) hHeld ?_
                show wpAnyH _ _ _ _ _ _ _ (Act.put _ (some 60) _) _
                simp only [Act.put, List.setIfInBounds_toArray, List.set_cons_zero, List.set_cons_succ]
                refine wpAnyH_take (i := 15) (v := undef) rfl (by kernel_rfl) (by kernel_rfl) (by kernel_rfl) (fun _ _ _ h => h) (Or.inr ⟨by rfl, rfl⟩) hHeld ?_
                show wpAnyH _ _ _ _ _ _ _ (Act.put _ (some 61) _) _
                simp only [Act.put, List.setIfInBounds_toArray, List.set_cons_zero, List.set_cons_succ]
                refine wpAnyH_take (i := 16) (v := undef) rfl (by kernel_rfl) (by kernel_rfl) (by kernel_rfl) (fun _ _ _ h => h) (Or.inr ⟨by rfl, rfl⟩) hHeld ?_
                show wpAnyH _ _ _ _ _ _ _ (Act.put _ (some 62) _) _
                simp only [Act.put, List.setIfInBounds_toArray, List.set_cons_zero, List.set_cons_succ]
                refine wpAnyH_take (i := 17) (v := undef) rfl (by kernel_rfl) (by kernel_rfl) (by kernel_rfl) (fun _ _ _ h => h) (Or.inr ⟨by rfl, rfl⟩) hHeld ?_
                show wpAnyH _ _ _ _ _ _ _ (Act.put _ (some 63) _) _
                simp only [Act.put, List.setIfInBounds_toArray, List.set_cons_zero, List.set_cons_succ]
                refine wpAnyH_take (i := 19) (v := undef) rfl (by kernel_rfl) (by kernel_rfl) (by kernel_rfl) (fun _ _ _ h => h) (Or.inr ⟨by rfl, rfl⟩) hHeld ?_
                show wpAnyH _ _ _ _ _ _ _ (Act.put _ (some 65) _) _
                simp only [Act.put, List.setIfInBounds_toArray, List.set_cons_zero, List.set_cons_succ]
                refine wpAnyH_ready (rs := [13]) (by kernel_rfl) (by simp) ?_
                refine AllReadyH.cons rfl (fun K hK => ?_) AllReadyH.nil
                rw [if_neg (by intro h; exact Bool.false_ne_true h)]
                refine hK.out _ _ HSV0.out (fun hHeld => ?_)
                clear hK K
                show wpAnyH _ _ _ _ _ _ _ (Act.put _ (some 59) _) _
                simp only [Act.put, List.setIfInBounds_toArray, List.set_cons_zero, List.set_cons_succ]
                refine wpAnyH_ready (rs := [18]) (by kernel_rfl) (by simp) ?_
                refine AllReadyH.cons rfl (fun K hK => ?_) AllReadyH.nil
                rw [if_neg (by intro h; exact Bool.false_ne_true h)]
                refine hK.out _ _ HSV0.out (fun hHeld => ?_)
                clear hK K
                show wpAnyH _ _ _ _ _ _ _ (Act.put _ (some 64) _) _
                simp only [Act.put, List.setIfInBounds_toArray, List.set_cons_zero, List.set_cons_succ]
                refine wpAnyH_take (i := 20) (v := undef) rfl (by kernel_rfl) (by kernel_rfl) (by kernel_rfl) (fun _ _ _ h => h) (Or.inr ⟨by rfl, rfl⟩) hHeld ?_
                show wpAnyH _ _ _ _ _ _ _ (Act.put _ (some 66) _) _
                simp only [Act.put, List.setIfInBounds_toArray, List.set_cons_zero, List.set_cons_succ]
                refine wpAnyH_take (i := 21) (v := undef) rfl (by kernel_rfl) (by kernel_rfl) (by kernel_rfl) (fun _ _ _ h => h) (Or.inr ⟨by rfl, rfl⟩) hHeld ?_
                show wpAnyH _ _ _ _ _ _ _ (Act.put _ (some 67) _) _
                simp only [Act.put, List.setIfInBounds_toArray, List.set_cons_zero, List.set_cons_succ]
                refine wpAnyH_take (i := 22) (v := .bool false) rfl (by kernel_rfl) (by kernel_rfl) (by kernel_rfl) (fun _ _ _ h => h) (Or.inl ⟨by rfl, by intro w hSw; first | rfl | go_simp⟩) hHeld ?_
                show wpAnyH _ _ _ _ _ _ _ (Act.put _ (some 68) _) _
                simp only [Act.put, List.setIfInBounds_toArray, List.set_cons_zero, List.set_cons_succ]
                refine wpAnyH_done (by kernel_rfl) ?_ _
                replace HW1 := Lib.hid (HW1.out.trans (HSV0.out.mono HW1.out.size))
                replace HRW := Lib.hid (HRW.out.below HSV0.out)
                replace Q0 := Lib.hid (Q0.out.keep HSV0.out)
                replace Q1 := Lib.hid (Q1.out.keep HSV0.out)
                replace Q2 := Lib.hid (Q2.out.keep HSV0.out)
                replace S0 := Lib.hid (S0.out.keep HSV0.out)
                clear HSV0 hHeld
                go_upto_region 16 with fail
                refine wp_region_held_drew (S := fun w' => Below V0.heap.size V0 w') (by kernel_rfl) (Below.refl _ _).drew (fun hHeld => ?_)
                have HSZ0 : Hid (Below V0.heap.size V0 V0.drew) := Lib.hid hHeld
                generalize V0.drew = Z0 at hHeld HSZ0 ⊢
                refine wpAnyH_take (i := 0) (v := .agg #[.int .i64 a, .int .i64 b]) rfl (by kernel_rfl) (by kernel_rfl) (by kernel_rfl) (fun _ _ _ h => h) (Or.inl ⟨by rfl, by intro w' h; have k1 := (Q1.out.keep h).c0; have k2 := (Q1.out.keep h).c1; go_simp⟩) hHeld ?_
                show wpAnyH _ _ _ _ _ _ _ (Act.put _ (some 69) _) _
                simp only [Act.put, List.setIfInBounds_toArray, List.set_cons_zero, List.set_cons_succ]
                refine wpAnyH_take (i := 2) (v := .agg #[.int .i64 c, .int .i64 d]) rfl (by kernel_rfl) (by kernel_rfl) (by kernel_rfl) (fun _ _ _ h => h) (Or.inl ⟨by rfl, by intro w' h; have k1 := (Q2.out.keep h).c0; have k2 := (Q2.out.keep h).c1; go_simp⟩) hHeld ?_
                show wpAnyH _ _ _ _ _ _ _ (Act.put _ (some 71) _) _
                simp only [Act.put, List.setIfInBounds_toArray, List.set_cons_zero, List.set_cons_succ]
                refine wpAnyH_take (i := 4) (v := .agg #[.int .i64 u, .int .i64 v]) rfl (by kernel_rfl) (by kernel_rfl) (by kernel_rfl) (fun _ _ _ h => h) (Or.inl ⟨by rfl, by intro w' h; have k1 := (S0.out.keep h).c0; have k2 := (S0.out.keep h).c1; go_simp⟩) hHeld ?_
                show wpAnyH _ _ _ _ _ _ _ (Act.put _ (some 73) _) _
                simp only [Act.put, List.setIfInBounds_toArray, List.set_cons_zero, List.set_cons_succ]
                refine wpAnyH_take (i := 6) (v := .agg #[.int .i64 c, .int .i64 d]) rfl (by kernel_rfl) (by kernel_rfl) (by kernel_rfl) (fun _ _ _ h => h) (Or.inl ⟨by rfl, by intro w' h; have k1 := (Q2.out.keep h).c0; have k2 := (Q2.out.keep h).c1; go_simp⟩) hHeld ?_
                show wpAnyH _ _ _ _ _ _ _ (Act.put _ (some 75) _) _
                simp only [Act.put, List.setIfInBounds_toArray, List.set_cons_zero, List.set_cons_succ]
                refine wpAnyH_take (i := 8) (v := .agg #[.int .i64 a, .int .i64 b]) rfl (by kernel_rfl) (by kernel_rfl) (by kernel_rfl) (fun _ _ _ h => h) (Or.inl ⟨by rfl, by intro w' h; have k1 := (Q1.out.keep h).c0; have k2 := (Q1.out.keep h).c1; go_simp⟩) hHeld ?_
                show wpAnyH _ _ _ _ _ _ _ (Act.put _ (some 77) _) _
                simp only [Act.put, List.setIfInBounds_toArray, List.set_cons_zero, List.set_cons_succ]
                refine wpAnyH_take (i := 10) (v := .agg #[.int .i64 u, .int .i64 v]) rfl (by kernel_rfl) (by kernel_rfl) (by kernel_rfl) (fun _ _ _ h => h) (Or.inl ⟨by rfl, by intro w' h; have k1 := (S0.out.keep h).c0; have k2 := (S0.out.keep h).c1; go_simp⟩) hHeld ?_
                show wpAnyH _ _ _ _ _ _ _ (Act.put _ (some 79) _) _
                simp only [Act.put, List.setIfInBounds_toArray, List.set_cons_zero, List.set_cons_succ]
                refine wpAnyH_ready (rs := [1]) (by kernel_rfl) (by simp) ?_
                refine AllReadyH.cons rfl (fun K hK => ?_) AllReadyH.nil
                refine step_call rfl 14 #[.tmp 69] #[23] rfl #[.agg #[.int .i64 a, .int .i64 b]] (by simp [Act.eval]) (by go_simp) (to_any _ _ _) ?_
                rintro e Z1 ⟨rfl, hB⟩
                have HSZ1 := Lib.hid (HSZ0.out.trans (hB.mono HSZ0.out.size))
                clear hB HSZ0
                refine ⟨_, rfl, hK.out _ _ HSZ1.out (fun hHeld => ?_)⟩
                clear hK K
                show wpAnyH _ _ _ _ _ _ _ (Act.put _ (some 70) _) _
                simp only [Act.put, List.setIfInBounds_toArray, List.set_cons_zero, List.set_cons_succ]
                refine wpAnyH_ready (rs := [3]) (by kernel_rfl) (by simp) ?_
                refine AllReadyH.cons rfl (fun K hK => ?_) AllReadyH.nil
                refine step_call rfl 14 #[.tmp 71] #[23] rfl #[.agg #[.int .i64 c, .int .i64 d]] (by simp [Act.eval]) (by go_simp) (to_any _ _ _) ?_
                rintro e Z2 ⟨rfl, hB⟩
                have HSZ2 := Lib.hid (HSZ1.out.trans (hB.mono HSZ1.out.size))
                clear hB HSZ1
                refine ⟨_, rfl, hK.out _ _ HSZ2.out (fun hHeld => ?_)⟩
                clear hK K
                show wpAnyH _ _ _ _ _ _ _ (Act.put _ (some 72) _) _
                simp only [Act.put, List.setIfInBounds_toArray, List.set_cons_zero, List.set_cons_succ]
                refine wpAnyH_ready (rs := [5]) (by kernel_rfl) (by simp) ?_
                refine AllReadyH.cons rfl (fun K hK => ?_) AllReadyH.nil
                refine step_call rfl 29 #[.tmp 70, .tmp 72, .tmp 73] #[24, 24, 24] rfl #[.agg #[.int .i64 a, .int .i64 b], .agg #[.int .i64 c, .int .i64 d], .agg #[.int .i64 u, .int .i64 v]] (by simp [Act.eval]) (by go_simp) (HS1.out Z2) ?_
                rintro e Z3 ⟨rfl, hB⟩
                have HSZ3 := Lib.hid (HSZ2.out.trans (hB.mono HSZ2.out.size))
                clear hB HSZ2
                refine ⟨_, rfl, hK.out _ _ HSZ3.out (fun hHeld => ?_)⟩
                clear hK K
                show wpAnyH _ _ _ _ _ _ _ (Act.put _ (some 74) _) _
                simp only [Act.put, List.setIfInBounds_toArray, List.set_cons_zero, List.set_cons_succ]
                refine wpAnyH_ready (rs := [7]) (by kernel_rfl) (by simp) ?_
                refine AllReadyH.cons rfl (fun K hK => ?_) AllReadyH.nil
                refine step_call rfl 14 #[.tmp 75] #[23] rfl #[.agg #[.int .i64 c, .int .i64 d]] (by simp [Act.eval]) (by go_simp) (to_any _ _ _) ?_
                rintro e Z4 ⟨rfl, hB⟩
                have HSZ4 := Lib.hid (HSZ3.out.trans (hB.mono HSZ3.out.size))
                clear hB HSZ3
                refine ⟨_, rfl, hK.out _ _ HSZ4.out (fun hHeld => ?_)⟩
                clear hK K
                show wpAnyH _ _ _ _ _ _ _ (Act.put _ (some 76) _) _
                simp only [Act.put, List.setIfInBounds_toArray, List.set_cons_zero, List.set_cons_succ]
                refine wpAnyH_ready (rs := [9]) (by kernel_rfl) (by simp) ?_
                refine AllReadyH.cons rfl (fun K hK => ?_) AllReadyH.nil
                refine step_call rfl 14 #[.tmp 77] #[23] rfl #[.agg #[.int .i64 a, .int .i64 b]] (by simp [Act.eval]) (by go_simp) (to_any _ _ _) ?_
                rintro e Z5 ⟨rfl, hB⟩
                have HSZ5 := Lib.hid (HSZ4.out.trans (hB.mono HSZ4.out.size))
                clear hB HSZ4
                refine ⟨_, rfl, hK.out _ _ HSZ5.out (fun hHeld => ?_)⟩
                clear hK K
                show wpAnyH _ _ _ _ _ _ _ (Act.put _ (some 78) _) _
                simp only [Act.put, List.setIfInBounds_toArray, List.set_cons_zero, List.set_cons_succ]
                refine wpAnyH_ready (rs := [11]) (by kernel_rfl) (by simp) ?_
                refine AllReadyH.cons rfl (fun K hK => ?_) AllReadyH.nil
                refine step_call rfl 29 #[.tmp 76, .tmp 78, .tmp 79] #[24, 24, 24] rfl #[.agg #[.int .i64 c, .int .i64 d], .agg #[.int .i64 a, .int .i64 b], .agg #[.int .i64 u, .int .i64 v]] (by simp [Act.eval]) (by go_simp) (HS2.out Z5) ?_
                rintro e Z6 ⟨rfl, hB⟩
                have HSZ6 := Lib.hid (HSZ5.out.trans (hB.mono HSZ5.out.size))
                clear hB HSZ5
                refine ⟨_, rfl, hK.out _ _ HSZ6.out (fun hHeld => ?_)⟩
                clear hK K
                show wpAnyH _ _ _ _ _ _ _ (Act.put _ (some 80) _) _
                simp only [Act.put, List.setIfInBounds_toArray, List.set_cons_zero, List.set_cons_succ]
                refine wpAnyH_take (i := 12) (v := .int .i64 s1) rfl (by kernel_rfl) (by kernel_rfl) (by kernel_rfl) (fun _ _ _ h => h) (Or.inl ⟨by rfl, by intro w' _; go_simp⟩) hHeld ?_
                show wpAnyH _ _ _ _ _ _ _ (Act.put _ (some 81) _) _
                simp only [Act.put, List.setIfInBounds_toArray, List.set_cons_zero, List.set_cons_succ]
                refine wpAnyH_take (i := 13) (v := .bool false) rfl (by kernel_rfl) (by kernel_rfl) (by kernel_rfl) (fun _ _ _ h => h) (Or.inl ⟨by rfl, by intro w' _; go_simp⟩) hHeld ?_
                show wpAnyH _ _ _ _ _ _ _ (Act.put _ (some 82) _) _
                simp only [Act.put, List.setIfInBounds_toArray, List.set_cons_zero, List.set_cons_succ]
                refine wpAnyH_done (by kernel_rfl) ?_ _
                replace HW1 := Lib.hid (HW1.out.trans (HSZ6.out.mono HW1.out.size))
                replace HRW := Lib.hid (HRW.out.below HSZ6.out)
                replace Q0 := Lib.hid (Q0.out.keep HSZ6.out)
                replace Q1 := Lib.hid (Q1.out.keep HSZ6.out)
                replace Q2 := Lib.hid (Q2.out.keep HSZ6.out)
                clear HSZ6 hHeld
                go_wp2
                go_roundw
                case rel => exact ⟨k + 1, by omega, by go_num, HRW, Q0, Q1, Q2, HW1⟩
                case measure => simp [intOf] <;> omega
          · go_wp2_with fail
            refine (awake_any _).mono ?_
            rintro e Y ⟨rfl, hB⟩
            have HWf := Lib.hid (HW1.out.trans (hB.mono HW1.out.size))
            go_wp2
            go_ret
            exact ⟨rfl, HWf.out⟩
  · have h201 : ¬ ((len : Int) ≤ 200) := by omega
    go_enter Try.func8, Try.ntmps8
    go_wp2_with fail
    refine (awake_any _).mono ?_
    rintro e Y ⟨rfl, hB⟩
    go_wp2
    go_ret
    exact ⟨rfl, ((((Below.refl _ w).alloc (Nat.le_refl _) _).alloc (by simp) _).alloc (by simp; omega) _).trans (hB.mono (by simp; omega))⟩
end Go.Proofs.Ytjbjekejekmipaa
