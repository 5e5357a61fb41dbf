/-
  ChartSpirals' walk.
-/
import Derived.Test.YtjbjekejekmipaaSpiB
import Derived.Test.YtjbjekejekmipaaStep
import Derived.Test.YtjbjekejekmipaaArg
namespace Go.Proofs.Ytjbjekejekmipaa
open Go.RowKit
set_option linter.unusedVariables false

theorem spiral_in (N : Nat) (h : N < 10000) : spiralP (N : Int) = ⟨(spiP N).1, (spiP N).2, 0⟩ := by
  unfold spiralP
  rw [if_pos (by omega)]
  simp
theorem spiral_out (n : Int) (h : n < 0 ∨ 10000 ≤ n) : spiralP n = ⟨0, 0, 1⟩ := by
  unfold spiralP
  rw [if_neg (by omega)]


set_option maxRecDepth 100000 in
set_option maxHeartbeats 4000000 in
theorem spirals_out (n m : Int) (w : World) (hn : n < 0 ∨ 10000 ≤ n) :
    Calls Try.prog 5 #[.int .i64 n, .int .i64 m] w fun e w' => e = .returned (.bool true) ∧ Below w.heap.size w w' := by
  obtain ⟨r2, h2⟩ : ∃ r, spiralP m = r := ⟨_, rfl⟩
  have HP : Hid (∀ w, Calls Try.prog 31 #[.int .i64 n] w fun e w' => e = .returned (.tuple #[.agg #[.int .i64 0, .int .i64 0], .int .i64 1]) ∧ Below w.heap.size w w') := Lib.hid fun w => by
    have h := spiral_any n w
    rw [spiral_out n hn] at h
    exact h
  have HQ : Hid (∀ w, Calls Try.prog 31 #[.int .i64 m] w fun e w' => e = .returned (.tuple #[.agg #[.int .i64 r2.x, .int .i64 r2.y], .int .i64 r2.e]) ∧ Below w.heap.size w w') := Lib.hid fun w => by
    have h := spiral_any m w
    rw [h2] at h
    exact h
  clear h2
  have HW1 : Hid (Below w.heap.size w w) := Lib.hid (Below.refl _ _)
  rcases hn with hn | hn
  · go_enter Try.func5, Try.ntmps5
    go_wp2_with fail
    refine (HP.out _).mono ?_
    rintro e Y1 ⟨rfl, hB⟩
    replace HW1 := Lib.hid (HW1.out.trans (hB.mono HW1.out.size))
    clear hB
    go_upto_region 2 with fail
    have A1 : Hid (Pt (Y1.alloc (.cells #[.int .i64 0, .int .i64 0] 24)) Y1.heap.size 24 0 0) := Lib.hid (Pt.mk_ rfl)
    replace HW1 := Lib.hid (HW1.out.alloc HW1.out.size (.cells #[.int .i64 0, .int .i64 0] 24))
    generalize (Y1.alloc (.cells #[.int .i64 0, .int .i64 0] 24)) = Y2 at HW1 A1  ⊢
    generalize Y1.heap.size = gA1 at A1 ⊢
    go_wp2_with fail
    refine (HQ.out _).mono ?_
    rintro e Y3 ⟨rfl, hB⟩
    replace HW1 := Lib.hid (HW1.out.trans (hB.mono HW1.out.size))
    replace A1 := Lib.hid (A1.out.keep hB)
    clear hB
    go_upto_region 3 with fail
    have A2 : Hid (Pt (Y3.alloc (.cells #[.int .i64 r2.x, .int .i64 r2.y] 24)) Y3.heap.size 24 r2.x r2.y) := Lib.hid (Pt.mk_ rfl)
    replace A1 := Lib.hid (A1.out.alloc (.cells #[.int .i64 r2.x, .int .i64 r2.y] 24))
    replace HW1 := Lib.hid (HW1.out.alloc HW1.out.size (.cells #[.int .i64 r2.x, .int .i64 r2.y] 24))
    generalize (Y3.alloc (.cells #[.int .i64 r2.x, .int .i64 r2.y] 24)) = Y4 at HW1 A2 A1 ⊢
    generalize Y3.heap.size = gA2 at A2 ⊢
    go_wp2_with fail
    refine (awake_any _).mono ?_
    rintro e Y5 ⟨rfl, hB⟩
    replace HW1 := Lib.hid (HW1.out.trans (hB.mono HW1.out.size))
    replace A1 := Lib.hid (A1.out.keep hB)
    replace A2 := Lib.hid (A2.out.keep hB)
    clear hB
    have A1a := A1.out.c0
    have A1b := A1.out.c1
    go_wp2
    go_ret
    exact ⟨rfl, HW1.out⟩
  · have hn0 : ¬ (n < 0) := by omega
    go_enter Try.func5, Try.ntmps5
    go_wp2_with fail
    refine (HP.out _).mono ?_
    rintro e Y1 ⟨rfl, hB⟩
    replace HW1 := Lib.hid (HW1.out.trans (hB.mono HW1.out.size))
    clear hB
    go_upto_region 2 with fail
    have A1 : Hid (Pt (Y1.alloc (.cells #[.int .i64 0, .int .i64 0] 24)) Y1.heap.size 24 0 0) := Lib.hid (Pt.mk_ rfl)
    replace HW1 := Lib.hid (HW1.out.alloc HW1.out.size (.cells #[.int .i64 0, .int .i64 0] 24))
    generalize (Y1.alloc (.cells #[.int .i64 0, .int .i64 0] 24)) = Y2 at HW1 A1  ⊢
    generalize Y1.heap.size = gA1 at A1 ⊢
    go_wp2_with fail
    refine (HQ.out _).mono ?_
    rintro e Y3 ⟨rfl, hB⟩
    replace HW1 := Lib.hid (HW1.out.trans (hB.mono HW1.out.size))
    replace A1 := Lib.hid (A1.out.keep hB)
    clear hB
    go_upto_region 3 with fail
    have A2 : Hid (Pt (Y3.alloc (.cells #[.int .i64 r2.x, .int .i64 r2.y] 24)) Y3.heap.size 24 r2.x r2.y) := Lib.hid (Pt.mk_ rfl)
    replace A1 := Lib.hid (A1.out.alloc (.cells #[.int .i64 r2.x, .int .i64 r2.y] 24))
    replace HW1 := Lib.hid (HW1.out.alloc HW1.out.size (.cells #[.int .i64 r2.x, .int .i64 r2.y] 24))
    generalize (Y3.alloc (.cells #[.int .i64 r2.x, .int .i64 r2.y] 24)) = Y4 at HW1 A2 A1 ⊢
    generalize Y3.heap.size = gA2 at A2 ⊢
    go_wp2_with fail
    refine (awake_any _).mono ?_
    rintro e Y5 ⟨rfl, hB⟩
    replace HW1 := Lib.hid (HW1.out.trans (hB.mono HW1.out.size))
    replace A1 := Lib.hid (A1.out.keep hB)
    replace A2 := Lib.hid (A2.out.keep hB)
    clear hB
    have A1a := A1.out.c0
    have A1b := A1.out.c1
    go_wp2
    go_ret
    exact ⟨rfl, HW1.out⟩


set_option maxRecDepth 100000 in
set_option maxHeartbeats 4000000 in
theorem spirals_out2 (N : Nat) (m : Int) (w : World) (hN : N < 10000) (hm : m < 0 ∨ 10000 ≤ m) :
    Calls Try.prog 5 #[.int .i64 N, .int .i64 m] w fun e w' => e = .returned (.bool true) ∧ Below w.heap.size w w' := by
  have HP : Hid (∀ w, Calls Try.prog 31 #[.int .i64 N] w fun e w' => e = .returned (.tuple #[.agg #[.int .i64 (spiP N).1, .int .i64 (spiP N).2], .int .i64 0]) ∧ Below w.heap.size w w') := Lib.hid fun w => by
    have h := spiral_any N w
    rw [spiral_in N hN] at h
    exact h
  have HR : Hid (∀ w, Calls Try.prog 32 #[.int .i64 N] w fun e w' => e = .returned (.agg #[.int .i64 (spiP N).1, .int .i64 (spiP N).2]) ∧ Below w.heap.size w w') := Lib.hid fun w => rspiral_any N hN w
  have HQ : Hid (∀ w, Calls Try.prog 31 #[.int .i64 m] w fun e w' => e = .returned (.tuple #[.agg #[.int .i64 0, .int .i64 0], .int .i64 1]) ∧ Below w.heap.size w w') := Lib.hid fun w => by
    have h := spiral_any m w
    rw [spiral_out m hm] at h
    exact h
  generalize (spiP N).1 = x1 at *
  generalize (spiP N).2 = y1 at *
  have n0 : ¬ ((N : Int) < 0) := by omega
  have n1 : ¬ (10000 ≤ (N : Int)) := by omega
  have HW1 : Hid (Below w.heap.size w w) := Lib.hid (Below.refl _ _)
  go_enter Try.func5, Try.ntmps5
  go_wp2_with fail
  refine (HP.out _).mono ?_
  rintro e Y1 ⟨rfl, hB⟩
  replace HW1 := Lib.hid (HW1.out.trans (hB.mono HW1.out.size))
  clear hB
  go_upto_region 2 with fail
  have A1 : Hid (Pt (Y1.alloc (.cells #[.int .i64 x1, .int .i64 y1] 24)) Y1.heap.size 24 x1 y1) := Lib.hid (Pt.mk_ rfl)
  replace HW1 := Lib.hid (HW1.out.alloc HW1.out.size (.cells #[.int .i64 x1, .int .i64 y1] 24))
  generalize (Y1.alloc (.cells #[.int .i64 x1, .int .i64 y1] 24)) = Y2 at HW1 A1  ⊢
  generalize Y1.heap.size = gA1 at A1 ⊢
  go_wp2_with fail
  refine (HQ.out _).mono ?_
  rintro e Y3 ⟨rfl, hB⟩
  replace HW1 := Lib.hid (HW1.out.trans (hB.mono HW1.out.size))
  replace A1 := Lib.hid (A1.out.keep hB)
  clear hB
  go_upto_region 3 with fail
  have A2 : Hid (Pt (Y3.alloc (.cells #[.int .i64 0, .int .i64 0] 24)) Y3.heap.size 24 0 0) := Lib.hid (Pt.mk_ rfl)
  replace A1 := Lib.hid (A1.out.alloc (.cells #[.int .i64 0, .int .i64 0] 24))
  replace HW1 := Lib.hid (HW1.out.alloc HW1.out.size (.cells #[.int .i64 0, .int .i64 0] 24))
  generalize (Y3.alloc (.cells #[.int .i64 0, .int .i64 0] 24)) = Y4 at HW1 A2 A1 ⊢
  generalize Y3.heap.size = gA2 at A2 ⊢
  go_upto_region 5 with fail
  replace A1 : Hid (Pt Y4.drew gA1 24 x1 y1) := Lib.hid A1.out
  replace A2 : Hid (Pt Y4.drew gA2 24 0 0) := Lib.hid A2.out
  replace HW1 : Hid (Below w.heap.size w Y4.drew) := Lib.hid (below_drewN HW1.out 1)
  have A1a := A1.out.c0
  have A1b := A1.out.c1
  have A2a := A2.out.c0
  have A2b := A2.out.c1
  go_region_held3 (fun w' => w'.cell? ⟨gA1, 0, none⟩ = some (.int .i64 x1) ∧ w'.cell? ⟨gA1, 1, none⟩ = some (.int .i64 y1)) (exact ⟨A1.out.c0, A1.out.c1⟩)
      (first
        | (go_at_call 32
           refine (HR.out _).mono ?_
           rintro e X1 ⟨rfl, hB⟩
           replace HW1 := Lib.hid (HW1.out.trans (hB.mono HW1.out.size))
           replace A1 := Lib.hid (A1.out.keep hB)
           replace A2 := Lib.hid (A2.out.keep hB)
           clear hB A1a A1b A2a A2b
           have A1a := A1.out.c0
           have A1b := A1.out.c1
           have A2a := A2.out.c0
           have A2b := A2.out.c1)
        | (go_at_call 14
           refine (to_any _ _ _).mono ?_
           rintro e X1 ⟨rfl, hB⟩
           replace HW1 := Lib.hid (HW1.out.trans (hB.mono HW1.out.size))
           replace A1 := Lib.hid (A1.out.keep hB)
           replace A2 := Lib.hid (A2.out.keep hB)
           clear hB A1a A1b A2a A2b
           have A1a := A1.out.c0
           have A1b := A1.out.c1
           have A2a := A2.out.c0
           have A2b := A2.out.c1))
  clear A1a A1b A2a A2b
  go_wp2_with fail
  refine (awake_any _).mono ?_
  rintro e Y5 ⟨rfl, hB⟩
  replace HW1 := Lib.hid (HW1.out.trans (hB.mono HW1.out.size))
  replace A1 := Lib.hid (A1.out.keep hB)
  replace A2 := Lib.hid (A2.out.keep hB)
  clear hB
  have A1a := A1.out.c0
  have A1b := A1.out.c1
  have A2a := A2.out.c0
  have A2b := A2.out.c1
  go_wp2
  go_ret
  exact ⟨rfl, HW1.out⟩


set_option maxRecDepth 100000 in
set_option maxHeartbeats 4000000 in
theorem spirals_same (N : Nat) (w : World) (hN : N < 10000)  :
    Calls Try.prog 5 #[.int .i64 N, .int .i64 N] w fun e w' => e = .returned (.bool true) ∧ Below w.heap.size w w' := by
  have HP : Hid (∀ w, Calls Try.prog 31 #[.int .i64 N] w fun e w' => e = .returned (.tuple #[.agg #[.int .i64 (spiP N).1, .int .i64 (spiP N).2], .int .i64 0]) ∧ Below w.heap.size w w') := Lib.hid fun w => by
    have h := spiral_any N w
    rw [spiral_in N hN] at h
    exact h
  have HR : Hid (∀ w, Calls Try.prog 32 #[.int .i64 N] w fun e w' => e = .returned (.agg #[.int .i64 (spiP N).1, .int .i64 (spiP N).2]) ∧ Below w.heap.size w w') := Lib.hid fun w => rspiral_any N hN w
  obtain ⟨HQ⟩ : Nonempty True := ⟨trivial⟩
  have HQ := HP
  generalize (spiP N).1 = x1 at *
  generalize (spiP N).2 = y1 at *
  have n0 : ¬ ((N : Int) < 0) := by omega
  have n1 : ¬ (10000 ≤ (N : Int)) := by omega
  have HW1 : Hid (Below w.heap.size w w) := Lib.hid (Below.refl _ _)
  go_enter Try.func5, Try.ntmps5
  go_wp2_with fail
  refine (HP.out _).mono ?_
  rintro e Y1 ⟨rfl, hB⟩
  replace HW1 := Lib.hid (HW1.out.trans (hB.mono HW1.out.size))
  clear hB
  go_upto_region 2 with fail
  have A1 : Hid (Pt (Y1.alloc (.cells #[.int .i64 x1, .int .i64 y1] 24)) Y1.heap.size 24 x1 y1) := Lib.hid (Pt.mk_ rfl)
  replace HW1 := Lib.hid (HW1.out.alloc HW1.out.size (.cells #[.int .i64 x1, .int .i64 y1] 24))
  generalize (Y1.alloc (.cells #[.int .i64 x1, .int .i64 y1] 24)) = Y2 at HW1 A1  ⊢
  generalize Y1.heap.size = gA1 at A1 ⊢
  go_wp2_with fail
  refine (HQ.out _).mono ?_
  rintro e Y3 ⟨rfl, hB⟩
  replace HW1 := Lib.hid (HW1.out.trans (hB.mono HW1.out.size))
  replace A1 := Lib.hid (A1.out.keep hB)
  clear hB
  go_upto_region 3 with fail
  have A2 : Hid (Pt (Y3.alloc (.cells #[.int .i64 x1, .int .i64 y1] 24)) Y3.heap.size 24 x1 y1) := Lib.hid (Pt.mk_ rfl)
  replace A1 := Lib.hid (A1.out.alloc (.cells #[.int .i64 x1, .int .i64 y1] 24))
  replace HW1 := Lib.hid (HW1.out.alloc HW1.out.size (.cells #[.int .i64 x1, .int .i64 y1] 24))
  generalize (Y3.alloc (.cells #[.int .i64 x1, .int .i64 y1] 24)) = Y4 at HW1 A2 A1 ⊢
  generalize Y3.heap.size = gA2 at A2 ⊢
  go_upto_region 5 with fail
  replace A1 : Hid (Pt Y4.drew gA1 24 x1 y1) := Lib.hid A1.out
  replace A2 : Hid (Pt Y4.drew gA2 24 x1 y1) := Lib.hid A2.out
  replace HW1 : Hid (Below w.heap.size w Y4.drew) := Lib.hid (below_drewN HW1.out 1)
  have A1a := A1.out.c0
  have A1b := A1.out.c1
  have A2a := A2.out.c0
  have A2b := A2.out.c1
  go_region_held3 (fun w' => w'.cell? ⟨gA1, 0, none⟩ = some (.int .i64 x1) ∧ w'.cell? ⟨gA1, 1, none⟩ = some (.int .i64 y1)) (exact ⟨A1.out.c0, A1.out.c1⟩)
      (first
        | (go_at_call 32
           refine (HR.out _).mono ?_
           rintro e X1 ⟨rfl, hB⟩
           replace HW1 := Lib.hid (HW1.out.trans (hB.mono HW1.out.size))
           replace A1 := Lib.hid (A1.out.keep hB)
           replace A2 := Lib.hid (A2.out.keep hB)
           clear hB A1a A1b A2a A2b
           have A1a := A1.out.c0
           have A1b := A1.out.c1
           have A2a := A2.out.c0
           have A2b := A2.out.c1)
        | (go_at_call 14
           refine (to_any _ _ _).mono ?_
           rintro e X1 ⟨rfl, hB⟩
           replace HW1 := Lib.hid (HW1.out.trans (hB.mono HW1.out.size))
           replace A1 := Lib.hid (A1.out.keep hB)
           replace A2 := Lib.hid (A2.out.keep hB)
           clear hB A1a A1b A2a A2b
           have A1a := A1.out.c0
           have A1b := A1.out.c1
           have A2a := A2.out.c0
           have A2b := A2.out.c1))
  clear A1a A1b A2a A2b
  go_wp2_with fail
  refine (awake_any _).mono ?_
  rintro e Y5 ⟨rfl, hB⟩
  replace HW1 := Lib.hid (HW1.out.trans (hB.mono HW1.out.size))
  replace A1 := Lib.hid (A1.out.keep hB)
  replace A2 := Lib.hid (A2.out.keep hB)
  clear hB
  have A1a := A1.out.c0
  have A1b := A1.out.c1
  have A2a := A2.out.c0
  have A2b := A2.out.c1
  have b1 : ((N : Int) == (N : Int)) = true := by simp
  go_wp2
  go_ret
  exact ⟨rfl, HW1.out⟩


set_option maxRecDepth 100000 in
set_option maxHeartbeats 4000000 in
theorem spirals_unlike (N M : Nat) (w : World) (hN : N < 10000) (hM : M < 10000) (hne : N ≠ M) :
    Calls Try.prog 5 #[.int .i64 N, .int .i64 M] w fun e w' => e = .returned (.bool true) ∧ Below w.heap.size w w' := by
  have HP : Hid (∀ w, Calls Try.prog 31 #[.int .i64 N] w fun e w' => e = .returned (.tuple #[.agg #[.int .i64 (spiP N).1, .int .i64 (spiP N).2], .int .i64 0]) ∧ Below w.heap.size w w') := Lib.hid fun w => by
    have h := spiral_any N w
    rw [spiral_in N hN] at h
    exact h
  have HR : Hid (∀ w, Calls Try.prog 32 #[.int .i64 N] w fun e w' => e = .returned (.agg #[.int .i64 (spiP N).1, .int .i64 (spiP N).2]) ∧ Below w.heap.size w w') := Lib.hid fun w => rspiral_any N hN w
  have HQ : Hid (∀ w, Calls Try.prog 31 #[.int .i64 M] w fun e w' => e = .returned (.tuple #[.agg #[.int .i64 (spiP M).1, .int .i64 (spiP M).2], .int .i64 0]) ∧ Below w.heap.size w w') := Lib.hid fun w => by
    have h := spiral_any M w
    rw [spiral_in M hM] at h
    exact h
  have HU : Hid (¬ ((spiP N).1 = (spiP M).1 ∧ (spiP N).2 = (spiP M).2)) := Lib.hid (fun h => hne (spi_inj N M hN hM (Prod.ext h.1 h.2)))
  generalize (spiP N).1 = x1 at *
  generalize (spiP N).2 = y1 at *
  generalize (spiP M).1 = x2 at *
  generalize (spiP M).2 = y2 at *
  have n0 : ¬ ((N : Int) < 0) := by omega
  have n1 : ¬ (10000 ≤ (N : Int)) := by omega
  have HW1 : Hid (Below w.heap.size w w) := Lib.hid (Below.refl _ _)
  go_enter Try.func5, Try.ntmps5
  go_wp2_with fail
  refine (HP.out _).mono ?_
  rintro e Y1 ⟨rfl, hB⟩
  replace HW1 := Lib.hid (HW1.out.trans (hB.mono HW1.out.size))
  clear hB
  go_upto_region 2 with fail
  have A1 : Hid (Pt (Y1.alloc (.cells #[.int .i64 x1, .int .i64 y1] 24)) Y1.heap.size 24 x1 y1) := Lib.hid (Pt.mk_ rfl)
  replace HW1 := Lib.hid (HW1.out.alloc HW1.out.size (.cells #[.int .i64 x1, .int .i64 y1] 24))
  generalize (Y1.alloc (.cells #[.int .i64 x1, .int .i64 y1] 24)) = Y2 at HW1 A1  ⊢
  generalize Y1.heap.size = gA1 at A1 ⊢
  go_wp2_with fail
  refine (HQ.out _).mono ?_
  rintro e Y3 ⟨rfl, hB⟩
  replace HW1 := Lib.hid (HW1.out.trans (hB.mono HW1.out.size))
  replace A1 := Lib.hid (A1.out.keep hB)
  clear hB
  go_upto_region 3 with fail
  have A2 : Hid (Pt (Y3.alloc (.cells #[.int .i64 x2, .int .i64 y2] 24)) Y3.heap.size 24 x2 y2) := Lib.hid (Pt.mk_ rfl)
  replace A1 := Lib.hid (A1.out.alloc (.cells #[.int .i64 x2, .int .i64 y2] 24))
  replace HW1 := Lib.hid (HW1.out.alloc HW1.out.size (.cells #[.int .i64 x2, .int .i64 y2] 24))
  generalize (Y3.alloc (.cells #[.int .i64 x2, .int .i64 y2] 24)) = Y4 at HW1 A2 A1 ⊢
  generalize Y3.heap.size = gA2 at A2 ⊢
  go_upto_region 5 with fail
  replace A1 : Hid (Pt Y4.drew gA1 24 x1 y1) := Lib.hid A1.out
  replace A2 : Hid (Pt Y4.drew gA2 24 x2 y2) := Lib.hid A2.out
  replace HW1 : Hid (Below w.heap.size w Y4.drew) := Lib.hid (below_drewN HW1.out 1)
  have A1a := A1.out.c0
  have A1b := A1.out.c1
  have A2a := A2.out.c0
  have A2b := A2.out.c1
  go_region_held3 (fun w' => w'.cell? ⟨gA1, 0, none⟩ = some (.int .i64 x1) ∧ w'.cell? ⟨gA1, 1, none⟩ = some (.int .i64 y1)) (exact ⟨A1.out.c0, A1.out.c1⟩)
      (first
        | (go_at_call 32
           refine (HR.out _).mono ?_
           rintro e X1 ⟨rfl, hB⟩
           replace HW1 := Lib.hid (HW1.out.trans (hB.mono HW1.out.size))
           replace A1 := Lib.hid (A1.out.keep hB)
           replace A2 := Lib.hid (A2.out.keep hB)
           clear hB A1a A1b A2a A2b
           have A1a := A1.out.c0
           have A1b := A1.out.c1
           have A2a := A2.out.c0
           have A2b := A2.out.c1)
        | (go_at_call 14
           refine (to_any _ _ _).mono ?_
           rintro e X1 ⟨rfl, hB⟩
           replace HW1 := Lib.hid (HW1.out.trans (hB.mono HW1.out.size))
           replace A1 := Lib.hid (A1.out.keep hB)
           replace A2 := Lib.hid (A2.out.keep hB)
           clear hB A1a A1b A2a A2b
           have A1a := A1.out.c0
           have A1b := A1.out.c1
           have A2a := A2.out.c0
           have A2b := A2.out.c1))
  clear A1a A1b A2a A2b
  go_wp2_with fail
  refine (awake_any _).mono ?_
  rintro e Y5 ⟨rfl, hB⟩
  replace HW1 := Lib.hid (HW1.out.trans (hB.mono HW1.out.size))
  replace A1 := Lib.hid (A1.out.keep hB)
  replace A2 := Lib.hid (A2.out.keep hB)
  clear hB
  have A1a := A1.out.c0
  have A1b := A1.out.c1
  have A2a := A2.out.c0
  have A2b := A2.out.c1
  have b1 : ((N : Int) == (M : Int)) = false := by simp; omega
  have b2 := HU.out
  go_wp2
  all_goals
    go_ret
    exact ⟨rfl, HW1.out⟩


theorem spirals_walk (n m : Int) (w : World) (hn : I64 n) (hm : I64 m) :
    Calls Try.prog 5 #[.int .i64 n, .int .i64 m] w fun e w' => e = .returned (.bool true) ∧ Below w.heap.size w w' := by
  by_cases h : n < 0 ∨ 10000 ≤ n
  · exact spirals_out n m w h
  · obtain ⟨N, rfl⟩ := Int.eq_ofNat_of_zero_le (show 0 ≤ n by omega)
    by_cases h2 : m < 0 ∨ 10000 ≤ m
    · exact spirals_out2 N m w (by omega) h2
    · obtain ⟨M, rfl⟩ := Int.eq_ofNat_of_zero_le (show 0 ≤ m by omega)
      by_cases h3 : N = M
      · subst h3
        exact spirals_same N w (by omega)
      · exact spirals_unlike N M w (by omega) (by omega) h3

end Go.Proofs.Ytjbjekejekmipaa
