/-
  What a side has free: the program's.
-/
import Derived.Test.YtkiifjkcpangfaaPacC
namespace Go.Proofs.Ytkiifjkcpangfaa
open Go.RowKit
set_option linter.unusedVariables false

set_option maxRecDepth 100000 in
set_option maxHeartbeats 4000000 in
theorem free_s0 (ch rd m0 m1 t0 t1 : Int) (a : Option Addr) (n cap : Nat) (cs : List Cnd) (p0 p1 : Int) (w : World) (hC : CRow w a cs) (hl : cs.length = n) (hn : n ≤ 1000) (hp : Word p0) (hm0 : Word m0) (hm1 : Word m1) (ht : Word t0) :
    Calls Try.prog 13 #[.agg #[.int .u32 ch, .int .u64 rd, .int .u64 m0, .int .u64 m1, .int .u64 t0, .int .u64 t1, .slice a n cap], .agg #[.int .u64 p0, .int .u64 p1], .int .i64 0] w fun e w' => e = .returned (.tuple #[.int .u64 (free2 (heldGo 0 0 cs) p0 m1 m0 t0).1, .int .i64 (free2 (heldGo 0 0 cs) p0 m1 m0 t0).2]) ∧ Below w.heap.size w w' := by
  have HC := Lib.hid hC
  have HL := Lib.hid hl
  have hhw := heldV_word 0 cs hC.ok
  clear hC hl
  go_enter Try.func13, Try.ntmps13
  go_wp2_with (go_at_call 35; refine (isSide0 _).mono ?_; rintro e w' ⟨rfl, rfl⟩)
  have HB : Hid (Below w.heap.size w ((w.alloc (.cells #[.int .u32 ch, .int .u64 rd, .int .u64 m0, .int .u64 m1, .int .u64 t0, .int .u64 t1, .slice a n cap] 31)).alloc (.cells #[.int .u64 p0, .int .u64 p1] 24))) := Lib.hid (((Below.refl _ _).alloc (Nat.le_refl _) _).alloc (by simp) _)
  have S0 : Hid (Blk ((w.alloc (.cells #[.int .u32 ch, .int .u64 rd, .int .u64 m0, .int .u64 m1, .int .u64 t0, .int .u64 t1, .slice a n cap] 31)).alloc (.cells #[.int .u64 p0, .int .u64 p1] 24)) w.heap.size 31 [.int .u32 ch, .int .u64 rd, .int .u64 m0, .int .u64 m1, .int .u64 t0, .int .u64 t1, .slice a n cap]) := Lib.hid ((Blk.mk_ rfl).alloc _)
  have P0 : Hid (Blk ((w.alloc (.cells #[.int .u32 ch, .int .u64 rd, .int .u64 m0, .int .u64 m1, .int .u64 t0, .int .u64 t1, .slice a n cap] 31)).alloc (.cells #[.int .u64 p0, .int .u64 p1] 24)) (w.heap.size + 1) 24 [.int .u64 p0, .int .u64 p1]) := Lib.hid (Blk.mk_ (by simp))
  generalize ((w.alloc (.cells #[.int .u32 ch, .int .u64 rd, .int .u64 m0, .int .u64 m1, .int .u64 t0, .int .u64 t1, .slice a n cap] 31)).alloc (.cells #[.int .u64 p0, .int .u64 p1] 24)) = W at HB S0 P0 ⊢
  refine (held_any ch rd m0 m1 t0 t1 a n cap cs 0 W (HC.out.below HB.out) HL.out hn).mono ?_
  rintro e V ⟨rfl, hB⟩
  have S1 := S0.out.below hB S0.out.lt
  have P1 := P0.out.below hB P0.out.lt
  have HV := Lib.hid (HB.out.trans (hB.mono HB.out.size))
  clear hB S0 P0 HB
  have HH : Hid (heldGo 0 0 cs = (heldV 0 cs, heldE 0 cs)) := Lib.hid rfl
  obtain ⟨hv, hhv⟩ : ∃ x, heldV 0 cs = x := ⟨_, rfl⟩
  obtain ⟨he, hhe⟩ : ∃ x, heldE 0 cs = x := ⟨_, rfl⟩
  rw [hhv] at hhw
  rw [hhv, hhe] at HH ⊢
  clear hhv hhe
  generalize w.heap.size = g at S1 P1 ⊢
  have k2 := S1.cell 2
  have k3 := S1.cell 3
  have k4 := S1.cell 4
  have k5 := S1.cell 5
  have k0 := P1.cell 0
  have k1 := P1.cell 1
  simp only [List.getElem?_cons_zero, List.getElem?_cons_succ] at k0 k1 k2 k3 k4 k5
  clear S1 P1
  by_cases h0 : he = 0
  · subst h0
    by_cases h1 : 18446744073709551616 ≤ p0 + m1
    · have HT := Lib.hid (free2_over (h := (hv, 0)) rfl h1 m0 t0)
      have H1 := Lib.hid h1
      clear h1
      go_upto_region 6 with fail
      go_quiet (first | (go_at_call 31; exact quiet_w (other0 _)) | (go_at_call 34; exact quiet_w (add_over p0 m1 _ hp hm1 (by have := H1.out; omega))))
      go_wp2
      go_ret2
      exact ⟨by rw [HH.out, HT.out]; rfl, below_drewN HV.out _⟩
    · have H1 := Lib.hid h1
      clear h1
      go_upto_region 6 with fail
      go_quiet (first | (go_at_call 31; exact quiet_w (other0 _)) | (go_at_call 34; exact quiet_w (add_ok p0 m1 _ hp hm1 (by have := H1.out; omega))))
      go_upto_region 9 with fail
      go_quiet (fail)
      have h1 : ¬ 18446744073709551616 ≤ p0 + m1 := by have := H1.out; omega
      have i0 := fun W => idx84_0 m0 t0 hv W
      have i1 := fun W => idx84_1 m0 t0 hv W
      have i2 := fun W => idx84_2 m0 t0 hv W
      have hN : Word (p0 + m1) := ⟨by have := hp.1; have := hm1.1; omega, by omega⟩
      by_cases h2 : p0 + m1 < m0
      · have HT := Lib.hid (free2_m (h := (hv, 0)) rfl h1 h2 t0)
        go_wp2
        refine wp_loop_rounds 4 ?_
        rw [rounds_succ]
        go_wp2_with (go_at_call 36; refine (sub_under _ _ _ hN hm0 (by omega)).mono ?_; rintro e w' ⟨rfl, rfl⟩)
        go_ret2
        exact ⟨by rw [HH.out, HT.out]; rfl, below_drewN HV.out _⟩
      · have hN2 : Word (p0 + m1 - m0) := ⟨by omega, by have := hm0.1; have := hN.2; omega⟩
        by_cases h3 : p0 + m1 - m0 < t0
        · have HT := Lib.hid (free2_t (h := (hv, 0)) rfl h1 h2 h3)
          go_wp2
          refine wp_loop_rounds 4 ?_
          rw [rounds_succ]
          go_wp2_with (go_at_call 36; refine (sub_ok _ _ _ hN hm0 (by omega)).mono ?_; rintro e w' ⟨rfl, rfl⟩)
          rw [rounds_succ]
          go_wp2_with (go_at_call 36; refine (sub_under _ _ _ hN2 ht (by omega)).mono ?_; rintro e w' ⟨rfl, rfl⟩)
          go_ret2
          exact ⟨by rw [HH.out, HT.out]; rfl, below_drewN HV.out _⟩
        · have hN3 : Word (p0 + m1 - m0 - t0) := ⟨by omega, by have := ht.1; have := hN2.2; omega⟩
          by_cases h4 : p0 + m1 - m0 - t0 < hv
          · have HT := Lib.hid (free2_h (h := (hv, 0)) rfl h1 h2 h3 h4)
            go_wp2
            refine wp_loop_rounds 4 ?_
            rw [rounds_succ]
            go_wp2_with (go_at_call 36; refine (sub_ok _ _ _ hN hm0 (by omega)).mono ?_; rintro e w' ⟨rfl, rfl⟩)
            rw [rounds_succ]
            go_wp2_with (go_at_call 36; refine (sub_ok _ _ _ hN2 ht (by omega)).mono ?_; rintro e w' ⟨rfl, rfl⟩)
            rw [rounds_succ]
            go_wp2_with (go_at_call 36; refine (sub_under _ _ _ hN3 hhw (by omega)).mono ?_; rintro e w' ⟨rfl, rfl⟩)
            go_ret2
            exact ⟨by rw [HH.out, HT.out]; rfl, below_drewN HV.out _⟩
          · have HT := Lib.hid (free2_ok (h := (hv, 0)) rfl h1 h2 h3 h4)
            go_wp2
            refine wp_loop_rounds 4 ?_
            rw [rounds_succ]
            go_wp2_with (go_at_call 36; refine (sub_ok _ _ _ hN hm0 (by omega)).mono ?_; rintro e w' ⟨rfl, rfl⟩)
            rw [rounds_succ]
            go_wp2_with (go_at_call 36; refine (sub_ok _ _ _ hN2 ht (by omega)).mono ?_; rintro e w' ⟨rfl, rfl⟩)
            rw [rounds_succ]
            go_wp2_with (go_at_call 36; refine (sub_ok _ _ _ hN3 hhw (by omega)).mono ?_; rintro e w' ⟨rfl, rfl⟩)
            rw [rounds_succ]
            go_wp2
            go_ret2
            exact ⟨by rw [HH.out, HT.out]; rfl, below_drewN HV.out _⟩
  · have b0 : (he != 0) = true := by simpa using h0
    have HT := Lib.hid (free2_err (h := (hv, he)) h0 p0 m1 m0 t0)
    clear h0
    go_wp2
    go_ret2
    exact ⟨by rw [HH.out, HT.out]; rfl, HV.out⟩

set_option maxRecDepth 100000 in
set_option maxHeartbeats 4000000 in
theorem free_s1 (ch rd m0 m1 t0 t1 : Int) (a : Option Addr) (n cap : Nat) (cs : List Cnd) (p0 p1 : Int) (w : World) (hC : CRow w a cs) (hl : cs.length = n) (hn : n ≤ 1000) (hp : Word p1) (hm0 : Word m0) (hm1 : Word m1) (ht : Word t1) :
    Calls Try.prog 13 #[.agg #[.int .u32 ch, .int .u64 rd, .int .u64 m0, .int .u64 m1, .int .u64 t0, .int .u64 t1, .slice a n cap], .agg #[.int .u64 p0, .int .u64 p1], .int .i64 1] w fun e w' => e = .returned (.tuple #[.int .u64 (free2 (heldGo 1 0 cs) p1 m0 m1 t1).1, .int .i64 (free2 (heldGo 1 0 cs) p1 m0 m1 t1).2]) ∧ Below w.heap.size w w' := by
  have HC := Lib.hid hC
  have HL := Lib.hid hl
  have hhw := heldV_word 1 cs hC.ok
  clear hC hl
  go_enter Try.func13, Try.ntmps13
  go_wp2_with (go_at_call 35; refine (isSide1 _).mono ?_; rintro e w' ⟨rfl, rfl⟩)
  have HB : Hid (Below w.heap.size w ((w.alloc (.cells #[.int .u32 ch, .int .u64 rd, .int .u64 m0, .int .u64 m1, .int .u64 t0, .int .u64 t1, .slice a n cap] 31)).alloc (.cells #[.int .u64 p0, .int .u64 p1] 24))) := Lib.hid (((Below.refl _ _).alloc (Nat.le_refl _) _).alloc (by simp) _)
  have S0 : Hid (Blk ((w.alloc (.cells #[.int .u32 ch, .int .u64 rd, .int .u64 m0, .int .u64 m1, .int .u64 t0, .int .u64 t1, .slice a n cap] 31)).alloc (.cells #[.int .u64 p0, .int .u64 p1] 24)) w.heap.size 31 [.int .u32 ch, .int .u64 rd, .int .u64 m0, .int .u64 m1, .int .u64 t0, .int .u64 t1, .slice a n cap]) := Lib.hid ((Blk.mk_ rfl).alloc _)
  have P0 : Hid (Blk ((w.alloc (.cells #[.int .u32 ch, .int .u64 rd, .int .u64 m0, .int .u64 m1, .int .u64 t0, .int .u64 t1, .slice a n cap] 31)).alloc (.cells #[.int .u64 p0, .int .u64 p1] 24)) (w.heap.size + 1) 24 [.int .u64 p0, .int .u64 p1]) := Lib.hid (Blk.mk_ (by simp))
  generalize ((w.alloc (.cells #[.int .u32 ch, .int .u64 rd, .int .u64 m0, .int .u64 m1, .int .u64 t0, .int .u64 t1, .slice a n cap] 31)).alloc (.cells #[.int .u64 p0, .int .u64 p1] 24)) = W at HB S0 P0 ⊢
  refine (held_any ch rd m0 m1 t0 t1 a n cap cs 1 W (HC.out.below HB.out) HL.out hn).mono ?_
  rintro e V ⟨rfl, hB⟩
  have S1 := S0.out.below hB S0.out.lt
  have P1 := P0.out.below hB P0.out.lt
  have HV := Lib.hid (HB.out.trans (hB.mono HB.out.size))
  clear hB S0 P0 HB
  have HH : Hid (heldGo 1 0 cs = (heldV 1 cs, heldE 1 cs)) := Lib.hid rfl
  obtain ⟨hv, hhv⟩ : ∃ x, heldV 1 cs = x := ⟨_, rfl⟩
  obtain ⟨he, hhe⟩ : ∃ x, heldE 1 cs = x := ⟨_, rfl⟩
  rw [hhv] at hhw
  rw [hhv, hhe] at HH ⊢
  clear hhv hhe
  generalize w.heap.size = g at S1 P1 ⊢
  have k2 := S1.cell 2
  have k3 := S1.cell 3
  have k4 := S1.cell 4
  have k5 := S1.cell 5
  have k0 := P1.cell 0
  have k1 := P1.cell 1
  simp only [List.getElem?_cons_zero, List.getElem?_cons_succ] at k0 k1 k2 k3 k4 k5
  clear S1 P1
  by_cases h0 : he = 0
  · subst h0
    by_cases h1 : 18446744073709551616 ≤ p1 + m0
    · have HT := Lib.hid (free2_over (h := (hv, 0)) rfl h1 m1 t1)
      have H1 := Lib.hid h1
      clear h1
      go_upto_region 6 with fail
      go_quiet (first | (go_at_call 31; exact quiet_w (other1 _)) | (go_at_call 34; exact quiet_w (add_over p1 m0 _ hp hm0 (by have := H1.out; omega))))
      go_wp2
      go_ret2
      exact ⟨by rw [HH.out, HT.out]; rfl, below_drewN HV.out _⟩
    · have H1 := Lib.hid h1
      clear h1
      go_upto_region 6 with fail
      go_quiet (first | (go_at_call 31; exact quiet_w (other1 _)) | (go_at_call 34; exact quiet_w (add_ok p1 m0 _ hp hm0 (by have := H1.out; omega))))
      go_upto_region 9 with fail
      go_quiet (fail)
      have h1 : ¬ 18446744073709551616 ≤ p1 + m0 := by have := H1.out; omega
      have i0 := fun W => idx84_0 m1 t1 hv W
      have i1 := fun W => idx84_1 m1 t1 hv W
      have i2 := fun W => idx84_2 m1 t1 hv W
      have hN : Word (p1 + m0) := ⟨by have := hp.1; have := hm0.1; omega, by omega⟩
      by_cases h2 : p1 + m0 < m1
      · have HT := Lib.hid (free2_m (h := (hv, 0)) rfl h1 h2 t1)
        go_wp2
        refine wp_loop_rounds 4 ?_
        rw [rounds_succ]
        go_wp2_with (go_at_call 36; refine (sub_under _ _ _ hN hm1 (by omega)).mono ?_; rintro e w' ⟨rfl, rfl⟩)
        go_ret2
        exact ⟨by rw [HH.out, HT.out]; rfl, below_drewN HV.out _⟩
      · have hN2 : Word (p1 + m0 - m1) := ⟨by omega, by have := hm1.1; have := hN.2; omega⟩
        by_cases h3 : p1 + m0 - m1 < t1
        · have HT := Lib.hid (free2_t (h := (hv, 0)) rfl h1 h2 h3)
          go_wp2
          refine wp_loop_rounds 4 ?_
          rw [rounds_succ]
          go_wp2_with (go_at_call 36; refine (sub_ok _ _ _ hN hm1 (by omega)).mono ?_; rintro e w' ⟨rfl, rfl⟩)
          rw [rounds_succ]
          go_wp2_with (go_at_call 36; refine (sub_under _ _ _ hN2 ht (by omega)).mono ?_; rintro e w' ⟨rfl, rfl⟩)
          go_ret2
          exact ⟨by rw [HH.out, HT.out]; rfl, below_drewN HV.out _⟩
        · have hN3 : Word (p1 + m0 - m1 - t1) := ⟨by omega, by have := ht.1; have := hN2.2; omega⟩
          by_cases h4 : p1 + m0 - m1 - t1 < hv
          · have HT := Lib.hid (free2_h (h := (hv, 0)) rfl h1 h2 h3 h4)
            go_wp2
            refine wp_loop_rounds 4 ?_
            rw [rounds_succ]
            go_wp2_with (go_at_call 36; refine (sub_ok _ _ _ hN hm1 (by omega)).mono ?_; rintro e w' ⟨rfl, rfl⟩)
            rw [rounds_succ]
            go_wp2_with (go_at_call 36; refine (sub_ok _ _ _ hN2 ht (by omega)).mono ?_; rintro e w' ⟨rfl, rfl⟩)
            rw [rounds_succ]
            go_wp2_with (go_at_call 36; refine (sub_under _ _ _ hN3 hhw (by omega)).mono ?_; rintro e w' ⟨rfl, rfl⟩)
            go_ret2
            exact ⟨by rw [HH.out, HT.out]; rfl, below_drewN HV.out _⟩
          · have HT := Lib.hid (free2_ok (h := (hv, 0)) rfl h1 h2 h3 h4)
            go_wp2
            refine wp_loop_rounds 4 ?_
            rw [rounds_succ]
            go_wp2_with (go_at_call 36; refine (sub_ok _ _ _ hN hm1 (by omega)).mono ?_; rintro e w' ⟨rfl, rfl⟩)
            rw [rounds_succ]
            go_wp2_with (go_at_call 36; refine (sub_ok _ _ _ hN2 ht (by omega)).mono ?_; rintro e w' ⟨rfl, rfl⟩)
            rw [rounds_succ]
            go_wp2_with (go_at_call 36; refine (sub_ok _ _ _ hN3 hhw (by omega)).mono ?_; rintro e w' ⟨rfl, rfl⟩)
            rw [rounds_succ]
            go_wp2
            go_ret2
            exact ⟨by rw [HH.out, HT.out]; rfl, below_drewN HV.out _⟩
  · have b0 : (he != 0) = true := by simpa using h0
    have HT := Lib.hid (free2_err (h := (hv, he)) h0 p1 m0 m1 t1)
    clear h0
    go_wp2
    go_ret2
    exact ⟨by rw [HH.out, HT.out]; rfl, HV.out⟩

set_option maxRecDepth 100000 in
set_option maxHeartbeats 4000000 in
theorem free_n (ch rd m0 m1 t0 t1 : Int) (a : Option Addr) (n cap : Nat) (cs : List Cnd) (p0 p1 side : Int) (w : World) (h0 : side ≠ 0) (h1 : side ≠ 1) :
    Calls Try.prog 13 #[.agg #[.int .u32 ch, .int .u64 rd, .int .u64 m0, .int .u64 m1, .int .u64 t0, .int .u64 t1, .slice a n cap], .agg #[.int .u64 p0, .int .u64 p1], .int .i64 side] w fun e w' => e = .returned (.tuple #[.int .u64 0, .int .i64 1]) ∧ Below w.heap.size w w' := by
  go_enter Try.func13, Try.ntmps13
  go_wp2_with (go_at_call 35; refine (isSideN _ _ h0 h1).mono ?_; rintro e w' ⟨rfl, rfl⟩)
  go_ret2
  exact ⟨rfl, ((Below.refl _ _).alloc (Nat.le_refl _) _).alloc (by simp) _⟩

theorem free_any (ch rd m0 m1 t0 t1 : Int) (a : Option Addr) (n cap : Nat) (cs : List Cnd) (p0 p1 side : Int) (w : World) (hC : CRow w a cs) (hl : cs.length = n) (hn : n ≤ 1000) (hp0 : Word p0) (hp1 : Word p1) (hO : St.Ok ⟨ch, rd, m0, m1, t0, t1, cs⟩) :
    Calls Try.prog 13 #[.agg #[.int .u32 ch, .int .u64 rd, .int .u64 m0, .int .u64 m1, .int .u64 t0, .int .u64 t1, .slice a n cap], .agg #[.int .u64 p0, .int .u64 p1], .int .i64 side] w fun e w' => e = .returned (.tuple #[.int .u64 (freeF ⟨ch, rd, m0, m1, t0, t1, cs⟩ p0 p1 side).1, .int .i64 (freeF ⟨ch, rd, m0, m1, t0, t1, cs⟩ p0 p1 side).2]) ∧ Below w.heap.size w w' := by
  unfold freeF
  by_cases h0 : side = 0
  · rw [if_pos h0]; subst h0
    exact free_s0 ch rd m0 m1 t0 t1 a n cap cs p0 p1 w hC hl hn hp0 hO.m0 hO.m1 hO.t0
  · by_cases h1 : side = 1
    · rw [if_neg h0, if_pos h1]; subst h1
      exact free_s1 ch rd m0 m1 t0 t1 a n cap cs p0 p1 w hC hl hn hp1 hO.m0 hO.m1 hO.t1
    · rw [if_neg h0, if_neg h1]
      exact free_n ch rd m0 m1 t0 t1 a n cap cs p0 p1 side w h0 h1
end Go.Proofs.Ytkiifjkcpangfaa
