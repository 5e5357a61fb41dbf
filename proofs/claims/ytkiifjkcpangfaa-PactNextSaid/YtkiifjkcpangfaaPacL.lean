/-
  The document's: what a side has free, whether a state may be.
-/
import Derived.Test.YtkiifjkcpangfaaPacK
namespace Go.Proofs.Ytkiifjkcpangfaa
open Go.RowKit
set_option linter.unusedVariables false

set_option maxRecDepth 100000 in
set_option maxHeartbeats 4000000 in
theorem rfree_s0 (ch rd m0 m1 t0 t1 : Int) (a : Option Addr) (n cap : Nat) (cs : List Cnd) (p0 p1 : Int) (w : World) (hC : CRow w a cs) (hl : cs.length = n) (hn : n ≤ 1000) (hp : Word p0) (hm0 : Word m0) (hm1 : Word m1) (ht : Word t0) :
    Calls Try.prog 14 #[.agg #[.int .u32 ch, .int .u64 rd, .int .u64 m0, .int .u64 m1, .int .u64 t0, .int .u64 t1, .slice a n cap], .agg #[.int .u64 p0, .int .u64 p1], .int .i64 0] w fun e w' => e = .returned (.tuple #[.int .u64 (free2 (heldGo 0 0 cs) p0 m1 m0 t0).1, .int .i64 (free2 (heldGo 0 0 cs) p0 m1 m0 t0).2]) ∧ Below w.heap.size w w' := by
  have HC := Lib.hid hC
  have HL := Lib.hid hl
  have hhw := heldV_word 0 cs hC.ok
  clear hC hl
  go_enter Try.func14, Try.ntmps14
  go_wp2_with fail
  have HB : Hid (Below w.heap.size w ((w.alloc (.cells #[.int .u32 ch, .int .u64 rd, .int .u64 m0, .int .u64 m1, .int .u64 t0, .int .u64 t1, .slice a n cap] 27)).alloc (.cells #[.int .u64 p0, .int .u64 p1] 24))) := Lib.hid (((Below.refl _ _).alloc (Nat.le_refl _) _).alloc (by simp) _)
  have S0 : Hid (Blk ((w.alloc (.cells #[.int .u32 ch, .int .u64 rd, .int .u64 m0, .int .u64 m1, .int .u64 t0, .int .u64 t1, .slice a n cap] 27)).alloc (.cells #[.int .u64 p0, .int .u64 p1] 24)) w.heap.size 27 [.int .u32 ch, .int .u64 rd, .int .u64 m0, .int .u64 m1, .int .u64 t0, .int .u64 t1, .slice a n cap]) := Lib.hid ((Blk.mk_ rfl).alloc _)
  have P0 : Hid (Blk ((w.alloc (.cells #[.int .u32 ch, .int .u64 rd, .int .u64 m0, .int .u64 m1, .int .u64 t0, .int .u64 t1, .slice a n cap] 27)).alloc (.cells #[.int .u64 p0, .int .u64 p1] 24)) (w.heap.size + 1) 24 [.int .u64 p0, .int .u64 p1]) := Lib.hid (Blk.mk_ (by simp))
  generalize ((w.alloc (.cells #[.int .u32 ch, .int .u64 rd, .int .u64 m0, .int .u64 m1, .int .u64 t0, .int .u64 t1, .slice a n cap] 27)).alloc (.cells #[.int .u64 p0, .int .u64 p1] 24)) = W at HB S0 P0 ⊢
  refine (rheld_any ch rd m0 m1 t0 t1 a n cap cs 0 W (HC.out.below HB.out) HL.out hn).mono ?_
  rintro e V ⟨rfl, hB⟩
  have S1 := S0.out.below hB S0.out.lt
  have P1 := P0.out.below hB P0.out.lt
  have HV := Lib.hid (HB.out.trans (hB.mono HB.out.size))
  clear hB S0 P0 HB
  have HH : Hid (heldGo 0 0 cs = (heldV 0 cs, heldE 0 cs)) := Lib.hid rfl
  obtain ⟨hv, hhv⟩ : ∃ x, heldV 0 cs = x := ⟨_, rfl⟩
  obtain ⟨he, hhe⟩ : ∃ x, heldE 0 cs = x := ⟨_, rfl⟩
  rw [hhv] at hhw
  rw [hhv, hhe] at HH ⊢
  clear hhv hhe
  obtain ⟨g, hgg⟩ : ∃ q, w.heap.size = q := ⟨_, rfl⟩
  rw [hgg] at S1 P1 ⊢
  clear hgg
  have SS := Lib.hid S1
  have PP := Lib.hid P1
  have k0 := SS.out.cell 0
  have k1 := SS.out.cell 1
  have k2 := SS.out.cell 2
  have k3 := SS.out.cell 3
  have k4 := SS.out.cell 4
  have k5 := SS.out.cell 5
  have k6 := SS.out.cell 6
  simp only [List.getElem?_cons_zero, List.getElem?_cons_succ] at k0 k1 k2 k3 k4 k5 k6
  have q0 := PP.out.cell 0
  have q1 := PP.out.cell 1
  simp only [List.getElem?_cons_zero, List.getElem?_cons_succ] at q0 q1
  by_cases h0 : he = 0
  · subst h0
    by_cases h1 : 18446744073709551616 ≤ p0 + m1
    · have HT := Lib.hid (free2_over (h := (hv, 0)) rfl h1 m0 t0)
      have H1 := Lib.hid h1
      clear h1
      go_upto_region 6 with fail
      go_quiet (first | (go_at_call 29; exact quiet_w (radd_over p0 m1 _ hp hm1 (by have := H1.out; omega))))
      go_wp2
      go_ret2
      exact ⟨by rw [HH.out, HT.out]; rfl, below_drewN HV.out _⟩
    · have H1 := Lib.hid h1
      clear h1
      go_upto_region 6 with fail
      go_quiet (first | (go_at_call 29; exact quiet_w (radd_ok p0 m1 _ hp hm1 (by have := H1.out; omega))))
      go_upto_region 9 with fail
      have hB9 : Below V.heap.size V (V.drewN nq) := below_drewN (Below.refl _ _) _
      have BB := Lib.hid (HV.out.trans (hB9.mono HV.out.size))
      have S := Lib.hid (SS.out.below hB9 SS.out.lt)
      clear hB9 HV SS PP k0 k1 k2 k3 k4 k5 k6 q0 q1
      generalize V.drewN nq = U at BB S ⊢
      have hBz : Below U.heap.size U U.drew := below_drewN (Below.refl _ _) 1
      have BBX0 : Hid (Below w.heap.size w U.drew) := Lib.hid (BB.out.trans (hBz.mono BB.out.size))
      have SX0 : Hid (Blk U.drew g 27 [.int .u32 ch, .int .u64 rd, .int .u64 m0, .int .u64 m1, .int .u64 t0, .int .u64 t1, .slice a n cap]) := Lib.hid (S.out.below hBz S.out.lt)
      clear hBz
      refine wp_region_held_drew (S := fun w' => Blk w' g 27 [.int .u32 ch, .int .u64 rd, .int .u64 m0, .int .u64 m1, .int .u64 t0, .int .u64 t1, .slice a n cap]) (by kernel_rfl) (SX0.out) (fun hHeld => ?_)
      generalize U.drew = X0 at hHeld BBX0 SX0 ⊢
      refine wpAnyH_take (i := 0) (v := .int .i64 0) rfl (by kernel_rfl) (by kernel_rfl) (by kernel_rfl) (fun _ _ _ h => h) (Or.inl ⟨by rfl, fun w _ => by rfl⟩) hHeld ?_
      show wpAnyH _ _ _ _ _ _ _ (Act.put _ (some 44) _) _
      simp only [Act.put, List.setIfInBounds_toArray, List.set_cons_zero, List.set_cons_succ]
      refine wpAnyH_take (i := 1) (v := .pointer (some ⟨g, 2, none⟩)) rfl (by kernel_rfl) (by kernel_rfl) (by kernel_rfl) (fun _ _ _ h => h) (Or.inl ⟨by rfl, by intro w' h; go_simp⟩) hHeld ?_
      show wpAnyH _ _ _ _ _ _ _ (Act.put _ (some 45) _) _
      simp only [Act.put, List.setIfInBounds_toArray, List.set_cons_zero, List.set_cons_succ]
      refine wpAnyH_take (i := 2) (v := .pointer (some ⟨g, 2, none⟩)) rfl (by kernel_rfl) (by kernel_rfl) (by kernel_rfl) (fun _ _ _ h => h) (Or.inl ⟨by rfl, by intro w' h; go_simp⟩) hHeld ?_
      show wpAnyH _ _ _ _ _ _ _ (Act.put _ (some 46) _) _
      simp only [Act.put, List.setIfInBounds_toArray, List.set_cons_zero, List.set_cons_succ]
      refine wpAnyH_take (i := 3) (v := .int .u64 m0) rfl (by kernel_rfl) (by kernel_rfl) (by kernel_rfl) (fun _ _ _ h => h) (Or.inl ⟨by rfl, by intro w' h; have q := Blk.cell h 2; simp only [List.getElem?_cons_zero, List.getElem?_cons_succ] at q; go_simp⟩) hHeld ?_
      show wpAnyH _ _ _ _ _ _ _ (Act.put _ (some 47) _) _
      simp only [Act.put, List.setIfInBounds_toArray, List.set_cons_zero, List.set_cons_succ]
      refine wpAnyH_take (i := 4) (v := .int .i64 0) rfl (by kernel_rfl) (by kernel_rfl) (by kernel_rfl) (fun _ _ _ h => h) (Or.inl ⟨by rfl, fun w _ => by rfl⟩) hHeld ?_
      show wpAnyH _ _ _ _ _ _ _ (Act.put _ (some 48) _) _
      simp only [Act.put, List.setIfInBounds_toArray, List.set_cons_zero, List.set_cons_succ]
      refine wpAnyH_take (i := 5) (v := .pointer (some ⟨g, 4, none⟩)) rfl (by kernel_rfl) (by kernel_rfl) (by kernel_rfl) (fun _ _ _ h => h) (Or.inl ⟨by rfl, by intro w' h; go_simp⟩) hHeld ?_
      show wpAnyH _ _ _ _ _ _ _ (Act.put _ (some 49) _) _
      simp only [Act.put, List.setIfInBounds_toArray, List.set_cons_zero, List.set_cons_succ]
      refine wpAnyH_take (i := 6) (v := .pointer (some ⟨g, 4, none⟩)) rfl (by kernel_rfl) (by kernel_rfl) (by kernel_rfl) (fun _ _ _ h => h) (Or.inl ⟨by rfl, by intro w' h; go_simp⟩) hHeld ?_
      show wpAnyH _ _ _ _ _ _ _ (Act.put _ (some 50) _) _
      simp only [Act.put, List.setIfInBounds_toArray, List.set_cons_zero, List.set_cons_succ]
      refine wpAnyH_take (i := 7) (v := .int .u64 t0) rfl (by kernel_rfl) (by kernel_rfl) (by kernel_rfl) (fun _ _ _ h => h) (Or.inl ⟨by rfl, by intro w' h; have q := Blk.cell h 4; simp only [List.getElem?_cons_zero, List.getElem?_cons_succ] at q; go_simp⟩) hHeld ?_
      show wpAnyH _ _ _ _ _ _ _ (Act.put _ (some 51) _) _
      simp only [Act.put, List.setIfInBounds_toArray, List.set_cons_zero, List.set_cons_succ]
      refine wpAnyH_take (i := 8) (v := .int .u64 hv) rfl (by kernel_rfl) (by kernel_rfl) (by kernel_rfl) (fun _ _ _ h => h) (Or.inl ⟨by rfl, fun w _ => by rfl⟩) hHeld ?_
      show wpAnyH _ _ _ _ _ _ _ (Act.put _ (some 52) _) _
      simp only [Act.put, List.setIfInBounds_toArray, List.set_cons_zero, List.set_cons_succ]
      refine wpAnyH_take (i := 9) (v := .agg #[.int .u64 m0, .int .u64 t0, .int .u64 hv]) rfl (by kernel_rfl) (by kernel_rfl) (by kernel_rfl) (fun _ _ _ h => h) (Or.inl ⟨by rfl, by intro w' h; go_simp⟩) hHeld ?_
      show wpAnyH _ _ _ _ _ _ _ (Act.put _ (some 53) _) _
      simp only [Act.put, List.setIfInBounds_toArray, List.set_cons_zero, List.set_cons_succ]
      refine wpAnyH_ready (rs := [10]) (by kernel_rfl) (by simp) ?_
      refine AllReadyH.cons rfl (fun K hK => ?_) AllReadyH.nil
      refine step_new rfl 84 rfl #[.int .u64 0, .int .u64 0, .int .u64 0] (.pointer (some ⟨X0.heap.size, 0, none⟩)) (by kernel_rfl) ?_
      have hB : Below X0.heap.size X0 (X0.alloc (.cells #[.int .u64 0, .int .u64 0, .int .u64 0] 84)) := (Below.refl _ _).alloc (Nat.le_refl _) _
      have hT := Blk.new X0 84 [.int .u64 0, .int .u64 0, .int .u64 0]
      generalize X0.alloc (.cells #[.int .u64 0, .int .u64 0, .int .u64 0] 84) = X1 at hB hT ⊢
      obtain ⟨gt, hgt⟩ : ∃ q, X0.heap.size = q := ⟨_, rfl⟩
      have HGT : Hid (w.heap.size ≤ gt ∧ g < gt) := Lib.hid (by have h1 := BBX0.out.size; have h2 := SX0.out.lt; omega)
      rw [hgt] at hT ⊢
      clear hgt
      have BBX1 : Hid (Below w.heap.size w X1) := Lib.hid (BBX0.out.trans (hB.mono BBX0.out.size))
      have SX1 : Hid (Blk X1 g 27 [.int .u32 ch, .int .u64 rd, .int .u64 m0, .int .u64 m1, .int .u64 t0, .int .u64 t1, .slice a n cap]) := Lib.hid (SX0.out.below hB SX0.out.lt)
      have TX1 : Hid (Blk X1 gt 84 [.int .u64 0, .int .u64 0, .int .u64 0]) := Lib.hid (hT)
      clear BBX0 SX0 hB hT
      refine hK.out _ _ (SX1.out) (fun hHeld => ?_)
      clear hK K
      show wpAnyH _ _ _ _ _ _ _ (Act.put _ (some 12) _) _
      simp only [Act.put, List.setIfInBounds_toArray, List.set_cons_zero, List.set_cons_succ]
      refine wpAnyH_ready (rs := [11]) (by kernel_rfl) (by simp) ?_
      refine AllReadyH.cons rfl (fun K hK => ?_) AllReadyH.nil
      refine step_store rfl 84 (.tmp 12) (.tmp 53) rfl gt [.int .u64 m0, .int .u64 t0, .int .u64 hv] rfl rfl 84 _ TX1.out (by kernel_rfl) rfl (by simp [Value.oneCell']) ?_
      intro X2 hT hO
      have hSO : some g ≠ some gt := fun e => by injection e with e; have := HGT.out; omega
      have hKW : ∀ q, some gt = some q → w.heap.size ≤ q := fun q hq => by injection hq with hq; have := HGT.out; omega
      have BBX2 : Hid (Below w.heap.size w X2) := Lib.hid (BBX1.out.grown hO BBX1.out.size hKW)
      have SX2 : Hid (Blk X2 g 27 [.int .u32 ch, .int .u64 rd, .int .u64 m0, .int .u64 m1, .int .u64 t0, .int .u64 t1, .slice a n cap]) := Lib.hid (SX1.out.grown hO hSO)
      have TX2 : Hid (Blk X2 gt 84 [.int .u64 m0, .int .u64 t0, .int .u64 hv]) := Lib.hid (hT)
      clear BBX1 SX1 hT hO hSO hKW TX1
      refine hK.out _ _ (SX2.out) (fun hHeld => ?_)
      clear hK K
      show wpAnyH _ _ _ _ _ _ _ (Act.put _ none _) _
      simp only [Act.put]
      refine wpAnyH_done (by kernel_rfl) ?_ _
      clear hHeld
      have z0 := TX2.out.cell 0
      have z1 := TX2.out.cell 1
      have z2 := TX2.out.cell 2
      simp only [List.getElem?_cons_zero, List.getElem?_cons_succ] at z0 z1 z2
      clear TX2 SX2
      have h1 : ¬ 18446744073709551616 ≤ p0 + m1 := by have := H1.out; omega
      have hN : Word (p0 + m1) := ⟨by have := hp.1; have := hm1.1; omega, by omega⟩
      by_cases h2 : p0 + m1 < m0
      · have HT := Lib.hid (free2_m (h := (hv, 0)) rfl h1 h2 t0)
        go_wp2
        refine wp_loop_rounds 4 ?_
        rw [rounds_succ]
        go_wp2_with (go_at_call 37; refine (rsub_under _ _ _ hN hm0 (by omega)).mono ?_; rintro e w2 ⟨rfl, rfl⟩)
        go_ret2
        exact ⟨by rw [HH.out, HT.out]; rfl, BBX2.out⟩
      · have hN2 : Word (p0 + m1 - m0) := ⟨by omega, by have := hm0.1; have := hN.2; omega⟩
        by_cases h3 : p0 + m1 - m0 < t0
        · have HT := Lib.hid (free2_t (h := (hv, 0)) rfl h1 h2 h3)
          go_wp2
          refine wp_loop_rounds 4 ?_
          rw [rounds_succ]
          go_wp2_with (go_at_call 37; refine (rsub_ok _ _ _ hN hm0 (by omega)).mono ?_; rintro e w2 ⟨rfl, rfl⟩)
          rw [rounds_succ]
          go_wp2_with (go_at_call 37; refine (rsub_under _ _ _ hN2 ht (by omega)).mono ?_; rintro e w2 ⟨rfl, rfl⟩)
          go_ret2
          exact ⟨by rw [HH.out, HT.out]; rfl, BBX2.out⟩
        · have hN3 : Word (p0 + m1 - m0 - t0) := ⟨by omega, by have := ht.1; have := hN2.2; omega⟩
          by_cases h4 : p0 + m1 - m0 - t0 < hv
          · have HT := Lib.hid (free2_h (h := (hv, 0)) rfl h1 h2 h3 h4)
            go_wp2
            refine wp_loop_rounds 4 ?_
            rw [rounds_succ]
            go_wp2_with (go_at_call 37; refine (rsub_ok _ _ _ hN hm0 (by omega)).mono ?_; rintro e w2 ⟨rfl, rfl⟩)
            rw [rounds_succ]
            go_wp2_with (go_at_call 37; refine (rsub_ok _ _ _ hN2 ht (by omega)).mono ?_; rintro e w2 ⟨rfl, rfl⟩)
            rw [rounds_succ]
            go_wp2_with (go_at_call 37; refine (rsub_under _ _ _ hN3 hhw (by omega)).mono ?_; rintro e w2 ⟨rfl, rfl⟩)
            go_ret2
            exact ⟨by rw [HH.out, HT.out]; rfl, BBX2.out⟩
          · have HT := Lib.hid (free2_ok (h := (hv, 0)) rfl h1 h2 h3 h4)
            go_wp2
            refine wp_loop_rounds 4 ?_
            rw [rounds_succ]
            go_wp2_with (go_at_call 37; refine (rsub_ok _ _ _ hN hm0 (by omega)).mono ?_; rintro e w2 ⟨rfl, rfl⟩)
            rw [rounds_succ]
            go_wp2_with (go_at_call 37; refine (rsub_ok _ _ _ hN2 ht (by omega)).mono ?_; rintro e w2 ⟨rfl, rfl⟩)
            rw [rounds_succ]
            go_wp2_with (go_at_call 37; refine (rsub_ok _ _ _ hN3 hhw (by omega)).mono ?_; rintro e w2 ⟨rfl, rfl⟩)
            rw [rounds_succ]
            go_wp2
            go_ret2
            exact ⟨by rw [HH.out, HT.out]; rfl, BBX2.out⟩
    

  · have b0 : (he != 0) = true := by simpa using h0
    have b1 : (he == 0) = false := by simpa using h0
    have HT := Lib.hid (free2_err (h := (hv, he)) h0 p0 m1 m0 t0)
    clear h0
    go_wp2
    go_ret2
    exact ⟨by rw [HH.out, HT.out]; rfl, HV.out⟩

set_option maxRecDepth 100000 in
set_option maxHeartbeats 4000000 in
theorem rfree_s1 (ch rd m0 m1 t0 t1 : Int) (a : Option Addr) (n cap : Nat) (cs : List Cnd) (p0 p1 : Int) (w : World) (hC : CRow w a cs) (hl : cs.length = n) (hn : n ≤ 1000) (hp : Word p1) (hm0 : Word m0) (hm1 : Word m1) (ht : Word t1) :
    Calls Try.prog 14 #[.agg #[.int .u32 ch, .int .u64 rd, .int .u64 m0, .int .u64 m1, .int .u64 t0, .int .u64 t1, .slice a n cap], .agg #[.int .u64 p0, .int .u64 p1], .int .i64 1] w fun e w' => e = .returned (.tuple #[.int .u64 (free2 (heldGo 1 0 cs) p1 m0 m1 t1).1, .int .i64 (free2 (heldGo 1 0 cs) p1 m0 m1 t1).2]) ∧ Below w.heap.size w w' := by
  have HC := Lib.hid hC
  have HL := Lib.hid hl
  have hhw := heldV_word 1 cs hC.ok
  clear hC hl
  go_enter Try.func14, Try.ntmps14
  go_wp2_with fail
  have HB : Hid (Below w.heap.size w ((w.alloc (.cells #[.int .u32 ch, .int .u64 rd, .int .u64 m0, .int .u64 m1, .int .u64 t0, .int .u64 t1, .slice a n cap] 27)).alloc (.cells #[.int .u64 p0, .int .u64 p1] 24))) := Lib.hid (((Below.refl _ _).alloc (Nat.le_refl _) _).alloc (by simp) _)
  have S0 : Hid (Blk ((w.alloc (.cells #[.int .u32 ch, .int .u64 rd, .int .u64 m0, .int .u64 m1, .int .u64 t0, .int .u64 t1, .slice a n cap] 27)).alloc (.cells #[.int .u64 p0, .int .u64 p1] 24)) w.heap.size 27 [.int .u32 ch, .int .u64 rd, .int .u64 m0, .int .u64 m1, .int .u64 t0, .int .u64 t1, .slice a n cap]) := Lib.hid ((Blk.mk_ rfl).alloc _)
  have P0 : Hid (Blk ((w.alloc (.cells #[.int .u32 ch, .int .u64 rd, .int .u64 m0, .int .u64 m1, .int .u64 t0, .int .u64 t1, .slice a n cap] 27)).alloc (.cells #[.int .u64 p0, .int .u64 p1] 24)) (w.heap.size + 1) 24 [.int .u64 p0, .int .u64 p1]) := Lib.hid (Blk.mk_ (by simp))
  generalize ((w.alloc (.cells #[.int .u32 ch, .int .u64 rd, .int .u64 m0, .int .u64 m1, .int .u64 t0, .int .u64 t1, .slice a n cap] 27)).alloc (.cells #[.int .u64 p0, .int .u64 p1] 24)) = W at HB S0 P0 ⊢
  refine (rheld_any ch rd m0 m1 t0 t1 a n cap cs 1 W (HC.out.below HB.out) HL.out hn).mono ?_
  rintro e V ⟨rfl, hB⟩
  have S1 := S0.out.below hB S0.out.lt
  have P1 := P0.out.below hB P0.out.lt
  have HV := Lib.hid (HB.out.trans (hB.mono HB.out.size))
  clear hB S0 P0 HB
  have HH : Hid (heldGo 1 0 cs = (heldV 1 cs, heldE 1 cs)) := Lib.hid rfl
  obtain ⟨hv, hhv⟩ : ∃ x, heldV 1 cs = x := ⟨_, rfl⟩
  obtain ⟨he, hhe⟩ : ∃ x, heldE 1 cs = x := ⟨_, rfl⟩
  rw [hhv] at hhw
  rw [hhv, hhe] at HH ⊢
  clear hhv hhe
  obtain ⟨g, hgg⟩ : ∃ q, w.heap.size = q := ⟨_, rfl⟩
  rw [hgg] at S1 P1 ⊢
  clear hgg
  have SS := Lib.hid S1
  have PP := Lib.hid P1
  have k0 := SS.out.cell 0
  have k1 := SS.out.cell 1
  have k2 := SS.out.cell 2
  have k3 := SS.out.cell 3
  have k4 := SS.out.cell 4
  have k5 := SS.out.cell 5
  have k6 := SS.out.cell 6
  simp only [List.getElem?_cons_zero, List.getElem?_cons_succ] at k0 k1 k2 k3 k4 k5 k6
  have q0 := PP.out.cell 0
  have q1 := PP.out.cell 1
  simp only [List.getElem?_cons_zero, List.getElem?_cons_succ] at q0 q1
  by_cases h0 : he = 0
  · subst h0
    by_cases h1 : 18446744073709551616 ≤ p1 + m0
    · have HT := Lib.hid (free2_over (h := (hv, 0)) rfl h1 m1 t1)
      have H1 := Lib.hid h1
      clear h1
      go_upto_region 6 with fail
      go_quiet (first | (go_at_call 29; exact quiet_w (radd_over p1 m0 _ hp hm0 (by have := H1.out; omega))))
      go_wp2
      go_ret2
      exact ⟨by rw [HH.out, HT.out]; rfl, below_drewN HV.out _⟩
    · have H1 := Lib.hid h1
      clear h1
      go_upto_region 6 with fail
      go_quiet (first | (go_at_call 29; exact quiet_w (radd_ok p1 m0 _ hp hm0 (by have := H1.out; omega))))
      go_upto_region 9 with fail
      have hB9 : Below V.heap.size V (V.drewN nq) := below_drewN (Below.refl _ _) _
      have BB := Lib.hid (HV.out.trans (hB9.mono HV.out.size))
      have S := Lib.hid (SS.out.below hB9 SS.out.lt)
      clear hB9 HV SS PP k0 k1 k2 k3 k4 k5 k6 q0 q1
      generalize V.drewN nq = U at BB S ⊢
      have hBz : Below U.heap.size U U.drew := below_drewN (Below.refl _ _) 1
      have BBX0 : Hid (Below w.heap.size w U.drew) := Lib.hid (BB.out.trans (hBz.mono BB.out.size))
      have SX0 : Hid (Blk U.drew g 27 [.int .u32 ch, .int .u64 rd, .int .u64 m0, .int .u64 m1, .int .u64 t0, .int .u64 t1, .slice a n cap]) := Lib.hid (S.out.below hBz S.out.lt)
      clear hBz
      refine wp_region_held_drew (S := fun w' => Blk w' g 27 [.int .u32 ch, .int .u64 rd, .int .u64 m0, .int .u64 m1, .int .u64 t0, .int .u64 t1, .slice a n cap]) (by kernel_rfl) (SX0.out) (fun hHeld => ?_)
      generalize U.drew = X0 at hHeld BBX0 SX0 ⊢
      refine wpAnyH_take (i := 0) (v := .int .i64 1) rfl (by kernel_rfl) (by kernel_rfl) (by kernel_rfl) (fun _ _ _ h => h) (Or.inl ⟨by rfl, fun w _ => by rfl⟩) hHeld ?_
      show wpAnyH _ _ _ _ _ _ _ (Act.put _ (some 44) _) _
      simp only [Act.put, List.setIfInBounds_toArray, List.set_cons_zero, List.set_cons_succ]
      refine wpAnyH_take (i := 1) (v := .pointer (some ⟨g, 2, none⟩)) rfl (by kernel_rfl) (by kernel_rfl) (by kernel_rfl) (fun _ _ _ h => h) (Or.inl ⟨by rfl, by intro w' h; go_simp⟩) hHeld ?_
      show wpAnyH _ _ _ _ _ _ _ (Act.put _ (some 45) _) _
      simp only [Act.put, List.setIfInBounds_toArray, List.set_cons_zero, List.set_cons_succ]
      refine wpAnyH_take (i := 2) (v := .pointer (some ⟨g, 3, none⟩)) rfl (by kernel_rfl) (by kernel_rfl) (by kernel_rfl) (fun _ _ _ h => h) (Or.inl ⟨by rfl, by intro w' h; go_simp⟩) hHeld ?_
      show wpAnyH _ _ _ _ _ _ _ (Act.put _ (some 46) _) _
      simp only [Act.put, List.setIfInBounds_toArray, List.set_cons_zero, List.set_cons_succ]
      refine wpAnyH_take (i := 3) (v := .int .u64 m1) rfl (by kernel_rfl) (by kernel_rfl) (by kernel_rfl) (fun _ _ _ h => h) (Or.inl ⟨by rfl, by intro w' h; have q := Blk.cell h 3; simp only [List.getElem?_cons_zero, List.getElem?_cons_succ] at q; go_simp⟩) hHeld ?_
      show wpAnyH _ _ _ _ _ _ _ (Act.put _ (some 47) _) _
      simp only [Act.put, List.setIfInBounds_toArray, List.set_cons_zero, List.set_cons_succ]
      refine wpAnyH_take (i := 4) (v := .int .i64 1) rfl (by kernel_rfl) (by kernel_rfl) (by kernel_rfl) (fun _ _ _ h => h) (Or.inl ⟨by rfl, fun w _ => by rfl⟩) hHeld ?_
      show wpAnyH _ _ _ _ _ _ _ (Act.put _ (some 48) _) _
      simp only [Act.put, List.setIfInBounds_toArray, List.set_cons_zero, List.set_cons_succ]
      refine wpAnyH_take (i := 5) (v := .pointer (some ⟨g, 4, none⟩)) rfl (by kernel_rfl) (by kernel_rfl) (by kernel_rfl) (fun _ _ _ h => h) (Or.inl ⟨by rfl, by intro w' h; go_simp⟩) hHeld ?_
      show wpAnyH _ _ _ _ _ _ _ (Act.put _ (some 49) _) _
      simp only [Act.put, List.setIfInBounds_toArray, List.set_cons_zero, List.set_cons_succ]
      refine wpAnyH_take (i := 6) (v := .pointer (some ⟨g, 5, none⟩)) rfl (by kernel_rfl) (by kernel_rfl) (by kernel_rfl) (fun _ _ _ h => h) (Or.inl ⟨by rfl, by intro w' h; go_simp⟩) hHeld ?_
      show wpAnyH _ _ _ _ _ _ _ (Act.put _ (some 50) _) _
      simp only [Act.put, List.setIfInBounds_toArray, List.set_cons_zero, List.set_cons_succ]
      refine wpAnyH_take (i := 7) (v := .int .u64 t1) rfl (by kernel_rfl) (by kernel_rfl) (by kernel_rfl) (fun _ _ _ h => h) (Or.inl ⟨by rfl, by intro w' h; have q := Blk.cell h 5; simp only [List.getElem?_cons_zero, List.getElem?_cons_succ] at q; go_simp⟩) hHeld ?_
      show wpAnyH _ _ _ _ _ _ _ (Act.put _ (some 51) _) _
      simp only [Act.put, List.setIfInBounds_toArray, List.set_cons_zero, List.set_cons_succ]
      refine wpAnyH_take (i := 8) (v := .int .u64 hv) rfl (by kernel_rfl) (by kernel_rfl) (by kernel_rfl) (fun _ _ _ h => h) (Or.inl ⟨by rfl, fun w _ => by rfl⟩) hHeld ?_
      show wpAnyH _ _ _ _ _ _ _ (Act.put _ (some 52) _) _
      simp only [Act.put, List.setIfInBounds_toArray, List.set_cons_zero, List.set_cons_succ]
      refine wpAnyH_take (i := 9) (v := .agg #[.int .u64 m1, .int .u64 t1, .int .u64 hv]) rfl (by kernel_rfl) (by kernel_rfl) (by kernel_rfl) (fun _ _ _ h => h) (Or.inl ⟨by rfl, by intro w' h; go_simp⟩) hHeld ?_
      show wpAnyH _ _ _ _ _ _ _ (Act.put _ (some 53) _) _
      simp only [Act.put, List.setIfInBounds_toArray, List.set_cons_zero, List.set_cons_succ]
      refine wpAnyH_ready (rs := [10]) (by kernel_rfl) (by simp) ?_
      refine AllReadyH.cons rfl (fun K hK => ?_) AllReadyH.nil
      refine step_new rfl 84 rfl #[.int .u64 0, .int .u64 0, .int .u64 0] (.pointer (some ⟨X0.heap.size, 0, none⟩)) (by kernel_rfl) ?_
      have hB : Below X0.heap.size X0 (X0.alloc (.cells #[.int .u64 0, .int .u64 0, .int .u64 0] 84)) := (Below.refl _ _).alloc (Nat.le_refl _) _
      have hT := Blk.new X0 84 [.int .u64 0, .int .u64 0, .int .u64 0]
      generalize X0.alloc (.cells #[.int .u64 0, .int .u64 0, .int .u64 0] 84) = X1 at hB hT ⊢
      obtain ⟨gt, hgt⟩ : ∃ q, X0.heap.size = q := ⟨_, rfl⟩
      have HGT : Hid (w.heap.size ≤ gt ∧ g < gt) := Lib.hid (by have h1 := BBX0.out.size; have h2 := SX0.out.lt; omega)
      rw [hgt] at hT ⊢
      clear hgt
      have BBX1 : Hid (Below w.heap.size w X1) := Lib.hid (BBX0.out.trans (hB.mono BBX0.out.size))
      have SX1 : Hid (Blk X1 g 27 [.int .u32 ch, .int .u64 rd, .int .u64 m0, .int .u64 m1, .int .u64 t0, .int .u64 t1, .slice a n cap]) := Lib.hid (SX0.out.below hB SX0.out.lt)
      have TX1 : Hid (Blk X1 gt 84 [.int .u64 0, .int .u64 0, .int .u64 0]) := Lib.hid (hT)
      clear BBX0 SX0 hB hT
      refine hK.out _ _ (SX1.out) (fun hHeld => ?_)
      clear hK K
      show wpAnyH _ _ _ _ _ _ _ (Act.put _ (some 12) _) _
      simp only [Act.put, List.setIfInBounds_toArray, List.set_cons_zero, List.set_cons_succ]
      refine wpAnyH_ready (rs := [11]) (by kernel_rfl) (by simp) ?_
      refine AllReadyH.cons rfl (fun K hK => ?_) AllReadyH.nil
      refine step_store rfl 84 (.tmp 12) (.tmp 53) rfl gt [.int .u64 m1, .int .u64 t1, .int .u64 hv] rfl rfl 84 _ TX1.out (by kernel_rfl) rfl (by simp [Value.oneCell']) ?_
      intro X2 hT hO
      have hSO : some g ≠ some gt := fun e => by injection e with e; have := HGT.out; omega
      have hKW : ∀ q, some gt = some q → w.heap.size ≤ q := fun q hq => by injection hq with hq; have := HGT.out; omega
      have BBX2 : Hid (Below w.heap.size w X2) := Lib.hid (BBX1.out.grown hO BBX1.out.size hKW)
      have SX2 : Hid (Blk X2 g 27 [.int .u32 ch, .int .u64 rd, .int .u64 m0, .int .u64 m1, .int .u64 t0, .int .u64 t1, .slice a n cap]) := Lib.hid (SX1.out.grown hO hSO)
      have TX2 : Hid (Blk X2 gt 84 [.int .u64 m1, .int .u64 t1, .int .u64 hv]) := Lib.hid (hT)
      clear BBX1 SX1 hT hO hSO hKW TX1
      refine hK.out _ _ (SX2.out) (fun hHeld => ?_)
      clear hK K
      show wpAnyH _ _ _ _ _ _ _ (Act.put _ none _) _
      simp only [Act.put]
      refine wpAnyH_done (by kernel_rfl) ?_ _
      clear hHeld
      have z0 := TX2.out.cell 0
      have z1 := TX2.out.cell 1
      have z2 := TX2.out.cell 2
      simp only [List.getElem?_cons_zero, List.getElem?_cons_succ] at z0 z1 z2
      clear TX2 SX2
      have h1 : ¬ 18446744073709551616 ≤ p1 + m0 := by have := H1.out; omega
      have hN : Word (p1 + m0) := ⟨by have := hp.1; have := hm0.1; omega, by omega⟩
      by_cases h2 : p1 + m0 < m1
      · have HT := Lib.hid (free2_m (h := (hv, 0)) rfl h1 h2 t1)
        go_wp2
        refine wp_loop_rounds 4 ?_
        rw [rounds_succ]
        go_wp2_with (go_at_call 37; refine (rsub_under _ _ _ hN hm1 (by omega)).mono ?_; rintro e w2 ⟨rfl, rfl⟩)
        go_ret2
        exact ⟨by rw [HH.out, HT.out]; rfl, BBX2.out⟩
      · have hN2 : Word (p1 + m0 - m1) := ⟨by omega, by have := hm1.1; have := hN.2; omega⟩
        by_cases h3 : p1 + m0 - m1 < t1
        · have HT := Lib.hid (free2_t (h := (hv, 0)) rfl h1 h2 h3)
          go_wp2
          refine wp_loop_rounds 4 ?_
          rw [rounds_succ]
          go_wp2_with (go_at_call 37; refine (rsub_ok _ _ _ hN hm1 (by omega)).mono ?_; rintro e w2 ⟨rfl, rfl⟩)
          rw [rounds_succ]
          go_wp2_with (go_at_call 37; refine (rsub_under _ _ _ hN2 ht (by omega)).mono ?_; rintro e w2 ⟨rfl, rfl⟩)
          go_ret2
          exact ⟨by rw [HH.out, HT.out]; rfl, BBX2.out⟩
        · have hN3 : Word (p1 + m0 - m1 - t1) := ⟨by omega, by have := ht.1; have := hN2.2; omega⟩
          by_cases h4 : p1 + m0 - m1 - t1 < hv
          · have HT := Lib.hid (free2_h (h := (hv, 0)) rfl h1 h2 h3 h4)
            go_wp2
            refine wp_loop_rounds 4 ?_
            rw [rounds_succ]
            go_wp2_with (go_at_call 37; refine (rsub_ok _ _ _ hN hm1 (by omega)).mono ?_; rintro e w2 ⟨rfl, rfl⟩)
            rw [rounds_succ]
            go_wp2_with (go_at_call 37; refine (rsub_ok _ _ _ hN2 ht (by omega)).mono ?_; rintro e w2 ⟨rfl, rfl⟩)
            rw [rounds_succ]
            go_wp2_with (go_at_call 37; refine (rsub_under _ _ _ hN3 hhw (by omega)).mono ?_; rintro e w2 ⟨rfl, rfl⟩)
            go_ret2
            exact ⟨by rw [HH.out, HT.out]; rfl, BBX2.out⟩
          · have HT := Lib.hid (free2_ok (h := (hv, 0)) rfl h1 h2 h3 h4)
            go_wp2
            refine wp_loop_rounds 4 ?_
            rw [rounds_succ]
            go_wp2_with (go_at_call 37; refine (rsub_ok _ _ _ hN hm1 (by omega)).mono ?_; rintro e w2 ⟨rfl, rfl⟩)
            rw [rounds_succ]
            go_wp2_with (go_at_call 37; refine (rsub_ok _ _ _ hN2 ht (by omega)).mono ?_; rintro e w2 ⟨rfl, rfl⟩)
            rw [rounds_succ]
            go_wp2_with (go_at_call 37; refine (rsub_ok _ _ _ hN3 hhw (by omega)).mono ?_; rintro e w2 ⟨rfl, rfl⟩)
            rw [rounds_succ]
            go_wp2
            go_ret2
            exact ⟨by rw [HH.out, HT.out]; rfl, BBX2.out⟩
    

  · have b0 : (he != 0) = true := by simpa using h0
    have b1 : (he == 0) = false := by simpa using h0
    have HT := Lib.hid (free2_err (h := (hv, he)) h0 p1 m0 m1 t1)
    clear h0
    go_wp2
    go_ret2
    exact ⟨by rw [HH.out, HT.out]; rfl, HV.out⟩

set_option maxRecDepth 100000 in
set_option maxHeartbeats 4000000 in
theorem rfree_n (ch rd m0 m1 t0 t1 : Int) (a : Option Addr) (n cap : Nat) (cs : List Cnd) (p0 p1 side : Int) (w : World) (h0 : side ≠ 0) (h1 : side ≠ 1) :
    Calls Try.prog 14 #[.agg #[.int .u32 ch, .int .u64 rd, .int .u64 m0, .int .u64 m1, .int .u64 t0, .int .u64 t1, .slice a n cap], .agg #[.int .u64 p0, .int .u64 p1], .int .i64 side] w fun e w' => e = .returned (.tuple #[.int .u64 0, .int .i64 1]) ∧ Below w.heap.size w w' := by
  have b0 : (side != 0) = true := by simpa using h0
  have b1 : (side != 1) = true := by simpa using h1
  clear h0 h1
  go_enter Try.func14, Try.ntmps14
  go_wp2
  go_ret2
  exact ⟨rfl, ((Below.refl _ _).alloc (Nat.le_refl _) _).alloc (by simp) _⟩

theorem rfree_any (ch rd m0 m1 t0 t1 : Int) (a : Option Addr) (n cap : Nat) (cs : List Cnd) (p0 p1 side : Int) (w : World) (hC : CRow w a cs) (hl : cs.length = n) (hn : n ≤ 1000) (hp0 : Word p0) (hp1 : Word p1) (hO : St.Ok ⟨ch, rd, m0, m1, t0, t1, cs⟩) :
    Calls Try.prog 14 #[.agg #[.int .u32 ch, .int .u64 rd, .int .u64 m0, .int .u64 m1, .int .u64 t0, .int .u64 t1, .slice a n cap], .agg #[.int .u64 p0, .int .u64 p1], .int .i64 side] w fun e w' => e = .returned (.tuple #[.int .u64 (freeF ⟨ch, rd, m0, m1, t0, t1, cs⟩ p0 p1 side).1, .int .i64 (freeF ⟨ch, rd, m0, m1, t0, t1, cs⟩ p0 p1 side).2]) ∧ Below w.heap.size w w' := by
  unfold freeF
  by_cases h0 : side = 0
  · rw [if_pos h0]; subst h0
    exact rfree_s0 ch rd m0 m1 t0 t1 a n cap cs p0 p1 w hC hl hn hp0 hO.m0 hO.m1 hO.t0
  · by_cases h1 : side = 1
    · rw [if_neg h0, if_pos h1]; subst h1
      exact rfree_s1 ch rd m0 m1 t0 t1 a n cap cs p0 p1 w hC hl hn hp1 hO.m0 hO.m1 hO.t1
    · rw [if_neg h0, if_neg h1]
      exact rfree_n ch rd m0 m1 t0 t1 a n cap cs p0 p1 side w h0 h1
end Go.Proofs.Ytkiifjkcpangfaa
