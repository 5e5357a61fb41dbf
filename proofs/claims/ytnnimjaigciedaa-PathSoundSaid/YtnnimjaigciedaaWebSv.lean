/-
  The document's Steps.
-/
import Derived.Test.YtnnimjaigciedaaWebSu
namespace Go.Proofs.Ytnnimjaigciedaa
open Go.RowKit
set_option linter.unusedVariables false

set_option maxRecDepth 100000 in
set_option maxHeartbeats 4000000 in
theorem rsteps_bad (sa : Option Addr) (sl sc : Nat) (ea : Option Addr) (el ec : Nat) (es : List Ed) (node : Int) (w : World) (hE : EdgeRow w ea es) (hel : es.length = el) (hel2 : el ≤ 1000) (hsl2 : sl ≤ 1000) (hc : checkE sl es ≠ 0) :
    Calls Try.prog 17 #[.agg #[.slice sa sl sc, .slice ea el ec], .int .i64 node] w (StepsPost 47 w []) := by
  have b0 : (checkE sl es != 0) = true := by simpa using hc
  have E0w := Lib.hid hE
  have Bw : Hid (Below w.heap.size w w) := Lib.hid (Below.refl _ _)
  have HEL := Lib.hid hel
  clear hE hel hc
  go_enter Try.func17, Try.ntmps17
  have hB : Below w.heap.size w (w.alloc (.cells #[.slice sa sl sc, .slice ea el ec] 25)) := (Below.refl _ _).alloc (Nat.le_refl _) _
  have BY1 : Hid (Below w.heap.size w (w.alloc (.cells #[.slice sa sl sc, .slice ea el ec] 25))) := Lib.hid (Bw.out.trans (hB.mono Bw.out.size))
  have E0Y1 : Hid (EdgeRow (w.alloc (.cells #[.slice sa sl sc, .slice ea el ec] 25)) ea es) := Lib.hid (E0w.out.below hB)
  have PY1 : Hid (Blk (w.alloc (.cells #[.slice sa sl sc, .slice ea el ec] 25)) w.heap.size 25 [.slice sa sl sc, .slice ea el ec]) := Lib.hid (Blk.new _ _ [.slice sa sl sc, .slice ea el ec])
  clear hB Bw E0w
  go_wp2_with fail
  generalize (w.alloc (.cells #[.slice sa sl sc, .slice ea el ec] 25)) = Y1 at BY1 E0Y1 PY1 ⊢
  generalize w.heap.size = gp at PY1 ⊢
  refine (rcheck_any sa sl sc ea el ec es Y1 E0Y1.out HEL.out (by omega) (by omega)).mono ?_
  rintro e Y2 ⟨rfl, hB⟩
  have BY2 : Hid (Below w.heap.size w Y2) := Lib.hid (BY1.out.trans (hB.mono BY1.out.size))
  have E0Y2 : Hid (EdgeRow Y2 ea es) := Lib.hid (E0Y1.out.below hB)
  have PY2 : Hid (Blk Y2 gp 25 [.slice sa sl sc, .slice ea el ec]) := Lib.hid (PY1.out.below hB PY1.out.lt)
  clear BY1 E0Y1 PY1
  clear hB
  go_wp2
  go_ret
  exact ⟨_, rfl, World.ownsRow_nil _ _ _ _, BY2.out⟩

set_option maxRecDepth 100000 in
set_option maxHeartbeats 8000000 in
theorem rsteps_good (sa : Option Addr) (sl sc : Nat) (ea : Option Addr) (el ec : Nat) (es : List Ed) (node : Int) (w : World) (hE : EdgeRow w ea es) (hel : es.length = el) (hel2 : el ≤ 90) (hsl2 : sl ≤ 1000) (hc : checkE sl es = 0) (hok : ∀ e ∈ es, EdOk e) :
    Calls Try.prog 17 #[.agg #[.slice sa sl sc, .slice ea el ec], .int .i64 node] w (StepsPost 47 w (openL es node 0 es.length)) := by
  have HG := Lib.hid (good_of hc).1
  have HOK := Lib.hid hok
  have E0w := Lib.hid hE
  have Bw : Hid (Below w.heap.size w w) := Lib.hid (Below.refl _ _)
  have HEL := Lib.hid hel
  have HC := Lib.hid hc
  have HE0 := E0w
  clear hE hel hc hok
  go_enter Try.func17, Try.ntmps17
  have hB : Below w.heap.size w (w.alloc (.cells #[.slice sa sl sc, .slice ea el ec] 25)) := (Below.refl _ _).alloc (Nat.le_refl _) _
  have BY1 : Hid (Below w.heap.size w (w.alloc (.cells #[.slice sa sl sc, .slice ea el ec] 25))) := Lib.hid (Bw.out.trans (hB.mono Bw.out.size))
  have E0Y1 : Hid (EdgeRow (w.alloc (.cells #[.slice sa sl sc, .slice ea el ec] 25)) ea es) := Lib.hid (E0w.out.below hB)
  have PY1 : Hid (Blk (w.alloc (.cells #[.slice sa sl sc, .slice ea el ec] 25)) w.heap.size 25 [.slice sa sl sc, .slice ea el ec]) := Lib.hid (Blk.new _ _ [.slice sa sl sc, .slice ea el ec])
  clear hB Bw E0w
  go_wp2_with fail
  generalize (w.alloc (.cells #[.slice sa sl sc, .slice ea el ec] 25)) = Y1 at BY1 E0Y1 PY1 ⊢
  generalize w.heap.size = gp at PY1 ⊢
  refine (rcheck_any sa sl sc ea el ec es Y1 E0Y1.out HEL.out (by omega) (by omega)).mono ?_
  rintro e Y2 ⟨rfl, hB⟩
  have BY2 : Hid (Below w.heap.size w Y2) := Lib.hid (BY1.out.trans (hB.mono BY1.out.size))
  have E0Y2 : Hid (EdgeRow Y2 ea es) := Lib.hid (E0Y1.out.below hB)
  have PY2 : Hid (Blk Y2 gp 25 [.slice sa sl sc, .slice ea el ec]) := Lib.hid (PY1.out.below hB PY1.out.lt)
  clear BY1 E0Y1 PY1
  clear hB
  rw [HC.out]
  go_wp2
  have HO0 : Hid (Y2.ownsRow w.heap.size 47 5 (.slice none 0 0) 0 (sflat [])) := Lib.hid (World.ownsRow_nil _ _ _ _)
  go_loopw [5, 6, 7] (fun l i _ wd => ∃ (k : Nat) (v : Value), k ≤ el ∧ i = .int .i64 k ∧ v = l ∧ Hid (wd.ownsRow w.heap.size 47 5 v (openL es node 0 k).length (sflat (openL es node 0 k))) ∧ Hid (EdgeRow wd ea es) ∧ Hid (Blk wd gp 25 [.slice sa sl sc, .slice ea el ec]) ∧ Hid (Below w.heap.size w wd)) (fun _ i _ _ => el - (intOf i).toNat)
  case atStart => exact ⟨0, _, Nat.zero_le _, rfl, rfl, HO0, E0Y2, PY2, BY2⟩
  case round =>
    clear HO0 E0Y2 BY2 PY2
    obtain ⟨k, v, hk, rfl, rfl, O, E0, P, B⟩ := hrel
    by_cases hlt : k < el
    · have hk' : k < es.length := by rw [HEL.out]; exact hlt
      obtain ⟨be, oe, rfl, hce⟩ := E0.out.at_ hk'
      obtain ⟨p, q, c, d, f, g, h, i, hx⟩ : ∃ p q c d f g h i, es.getD k ed0 = ⟨p, q, c, d, f, g, h, i⟩ := ⟨_, _, _, _, _, _, _, _, rfl⟩
      rw [hx] at hce
      have HX := Lib.hid hx
      have C := Lib.hid hce
      have HBE : Hid (be < w.heap.size) := Lib.hid (by obtain ⟨b1, o1, h1, h2⟩ := HE0.out.at_ hk'; injection h1 with h1; injection h1 with h1; rw [h1]; exact h2.1)
      have hne : p ≠ q := by have := (HG.out _ (ed_mem es k hk')).2.2; rw [hx] at this; exact this
      have hcd : 0 ≤ c ∧ 0 ≤ d := by have := HOK.out _ (ed_mem es k hk'); rw [hx] at this; exact ⟨this.2.2.1.1, this.2.2.2.1.1⟩
      have hk0 : (0 : Int) ≤ (k : Int) := Int.natCast_nonneg _
      have hk1 : (k : Int) < (el : Int) := by omega
      have e0 : wr.cell? ⟨be, oe + k * 8, none⟩ = some (.int .i64 p) := hce.2 0 _ rfl
      have e1 : wr.cell? ⟨be, oe + k * 8 + 1, none⟩ = some (.int .i64 q) := hce.2 1 _ rfl
      have hlk := openL_length es node 0 k
      have HSU : Hid (openL es node 0 (k + 1) = openL es node 0 k ++ stepsAt ⟨p, q, c, d, f, g, h, i⟩ k node 0) := Lib.hid (by rw [openL, HX.out])
      have cP0 := Blk.cell P.out 0
      have cP1 := Blk.cell P.out 1
      simp only [List.getElem?_cons_zero, List.getElem?_cons_succ] at cP0 cP1
      clear hce hx hk'
      by_cases h1 : p = node
      · have b1 : (p == node) = true := by simpa using h1
        have b2 : (q == node) = false := by simp; omega
        have HS : Hid (stepsAt ⟨p, q, c, d, f, g, h, i⟩ k node 0 = [⟨k, q, c, f, g⟩]) := Lib.hid (by unfold stepsAt sideE; rw [if_pos h1]; simp [hcd.1, stp0])
        clear h1 hne
        go_wp2
        refine wp_loop_rounds 3 ?_
        rw [rounds_succ]
        go_wp2_with fail
        have hBz : Below wr.heap.size wr wr.drew := below_drewN (Below.refl _ _) 1
        have BX0 : Hid (Below w.heap.size w wr.drew) := Lib.hid (B.out.trans (hBz.mono B.out.size))
        have PX0 : Hid (Blk wr.drew gp 25 [.slice sa sl sc, .slice (some ⟨be, oe, none⟩) el ec]) := Lib.hid (P.out.below hBz P.out.lt)
        have CX0 : Hid (EdAt wr.drew be (oe + k * 8) ⟨p, q, c, d, f, g, h, i⟩) := Lib.hid (C.out.below hBz)
        have OX0 : Hid (World.ownsRow wr.drew w.heap.size 47 5 v (openL es node 0 k).length (sflat (openL es node 0 k))) := Lib.hid (ownsRow_keep O.out hBz)
        clear hBz
        refine wp_region_held_drew (S := fun w' => Blk w' gp 25 [.slice sa sl sc, .slice (some ⟨be, oe, none⟩) el ec] ∧ EdAt w' be (oe + k * 8) ⟨p, q, c, d, f, g, h, i⟩) (by kernel_rfl) (⟨PX0.out, CX0.out⟩) (fun hHeld => ?_)
        generalize wr.drew = X0 at hHeld BX0 PX0 CX0 OX0 ⊢
        refine wpAnyH_take (i := 0) (v := v) rfl (by kernel_rfl) (by kernel_rfl) (by kernel_rfl) (fun _ _ _ h => h) (Or.inl ⟨by rfl, fun w _ => by rfl⟩) hHeld ?_
        show wpAnyH _ _ _ _ _ _ _ (Act.put _ (some 33) _) _
        simp only [Act.put, List.setIfInBounds_toArray, List.set_cons_zero, List.set_cons_succ]
        refine wpAnyH_take (i := 1) (v := .int .i64 (k : Int)) rfl (by kernel_rfl) (by kernel_rfl) (by kernel_rfl) (fun _ _ _ h => h) (Or.inl ⟨by rfl, fun w _ => by rfl⟩) hHeld ?_
        show wpAnyH _ _ _ _ _ _ _ (Act.put _ (some 34) _) _
        simp only [Act.put, List.setIfInBounds_toArray, List.set_cons_zero, List.set_cons_succ]
        refine wpAnyH_take (i := 2) (v := .pointer (some ⟨gp, 1, none⟩)) rfl (by kernel_rfl) (by kernel_rfl) (by kernel_rfl) (fun _ _ _ h => h) (Or.inl ⟨by rfl, by intro w' h; go_simp⟩) hHeld ?_
        show wpAnyH _ _ _ _ _ _ _ (Act.put _ (some 35) _) _
        simp only [Act.put, List.setIfInBounds_toArray, List.set_cons_zero, List.set_cons_succ]
        refine wpAnyH_take (i := 3) (v := .slice (some ⟨be, oe, none⟩) el ec) rfl (by kernel_rfl) (by kernel_rfl) (by kernel_rfl) (fun _ _ _ h => h) (Or.inl ⟨by rfl, by intro w' h; have k1 := Blk.cell h.1 1; simp only [List.getElem?_cons_zero, List.getElem?_cons_succ] at k1; go_simp⟩) hHeld ?_
        show wpAnyH _ _ _ _ _ _ _ (Act.put _ (some 36) _) _
        simp only [Act.put, List.setIfInBounds_toArray, List.set_cons_zero, List.set_cons_succ]
        refine wpAnyH_take (i := 4) (v := .int .i64 (k : Int)) rfl (by kernel_rfl) (by kernel_rfl) (by kernel_rfl) (fun _ _ _ h => h) (Or.inl ⟨by rfl, fun w _ => by rfl⟩) hHeld ?_
        show wpAnyH _ _ _ _ _ _ _ (Act.put _ (some 37) _) _
        simp only [Act.put, List.setIfInBounds_toArray, List.set_cons_zero, List.set_cons_succ]
        refine wpAnyH_take (i := 5) (v := .int .i64 0) rfl (by kernel_rfl) (by kernel_rfl) (by kernel_rfl) (fun _ _ _ h => h) (Or.inl ⟨by rfl, fun w _ => by rfl⟩) hHeld ?_
        show wpAnyH _ _ _ _ _ _ _ (Act.put _ (some 38) _) _
        simp only [Act.put, List.setIfInBounds_toArray, List.set_cons_zero, List.set_cons_succ]
        refine wpAnyH_take (i := 6) (v := .int .i64 1) rfl (by kernel_rfl) (by kernel_rfl) (by kernel_rfl) (fun _ _ _ h => h) (Or.inl ⟨by rfl, by intro w' h; go_simp; (first | rfl | decide)⟩) hHeld ?_
        show wpAnyH _ _ _ _ _ _ _ (Act.put _ (some 39) _) _
        simp only [Act.put, List.setIfInBounds_toArray, List.set_cons_zero, List.set_cons_succ]
        refine wpAnyH_take (i := 7) (v := .pointer (some ⟨be, oe + k * 8, none⟩)) rfl (by kernel_rfl) (by kernel_rfl) (by kernel_rfl) (fun _ _ _ h => h) (Or.inl ⟨by rfl, by intro w' h; go_simp⟩) hHeld ?_
        show wpAnyH _ _ _ _ _ _ _ (Act.put _ (some 40) _) _
        simp only [Act.put, List.setIfInBounds_toArray, List.set_cons_zero, List.set_cons_succ]
        refine wpAnyH_take (i := 8) (v := .pointer (some ⟨be, oe + k * 8, none⟩)) rfl (by kernel_rfl) (by kernel_rfl) (by kernel_rfl) (fun _ _ _ h => h) (Or.inl ⟨by rfl, by intro w' h; go_simp⟩) hHeld ?_
        show wpAnyH _ _ _ _ _ _ _ (Act.put _ (some 41) _) _
        simp only [Act.put, List.setIfInBounds_toArray, List.set_cons_zero, List.set_cons_succ]
        refine wpAnyH_take (i := 9) (v := .pointer (some ⟨be, oe + k * 8 + 1, none⟩)) rfl (by kernel_rfl) (by kernel_rfl) (by kernel_rfl) (fun _ _ _ h => h) (Or.inl ⟨by rfl, by intro w' h; go_simp⟩) hHeld ?_
        show wpAnyH _ _ _ _ _ _ _ (Act.put _ (some 42) _) _
        simp only [Act.put, List.setIfInBounds_toArray, List.set_cons_zero, List.set_cons_succ]
        refine wpAnyH_take (i := 10) (v := .int .i64 q) rfl (by kernel_rfl) (by kernel_rfl) (by kernel_rfl) (fun _ _ _ h => h) (Or.inl ⟨by rfl, by intro w' h; have k1 : w'.cell? ⟨be, oe + k * 8 + 1, none⟩ = _ := h.2.2 1 _ rfl; go_simp⟩) hHeld ?_
        show wpAnyH _ _ _ _ _ _ _ (Act.put _ (some 43) _) _
        simp only [Act.put, List.setIfInBounds_toArray, List.set_cons_zero, List.set_cons_succ]
        refine wpAnyH_take (i := 11) (v := .pointer (some ⟨gp, 1, none⟩)) rfl (by kernel_rfl) (by kernel_rfl) (by kernel_rfl) (fun _ _ _ h => h) (Or.inl ⟨by rfl, by intro w' h; go_simp⟩) hHeld ?_
        show wpAnyH _ _ _ _ _ _ _ (Act.put _ (some 44) _) _
        simp only [Act.put, List.setIfInBounds_toArray, List.set_cons_zero, List.set_cons_succ]
        refine wpAnyH_take (i := 12) (v := .slice (some ⟨be, oe, none⟩) el ec) rfl (by kernel_rfl) (by kernel_rfl) (by kernel_rfl) (fun _ _ _ h => h) (Or.inl ⟨by rfl, by intro w' h; have k1 := Blk.cell h.1 1; simp only [List.getElem?_cons_zero, List.getElem?_cons_succ] at k1; go_simp⟩) hHeld ?_
        show wpAnyH _ _ _ _ _ _ _ (Act.put _ (some 45) _) _
        simp only [Act.put, List.setIfInBounds_toArray, List.set_cons_zero, List.set_cons_succ]
        refine wpAnyH_take (i := 13) (v := .int .i64 (k : Int)) rfl (by kernel_rfl) (by kernel_rfl) (by kernel_rfl) (fun _ _ _ h => h) (Or.inl ⟨by rfl, fun w _ => by rfl⟩) hHeld ?_
        show wpAnyH _ _ _ _ _ _ _ (Act.put _ (some 46) _) _
        simp only [Act.put, List.setIfInBounds_toArray, List.set_cons_zero, List.set_cons_succ]
        refine wpAnyH_take (i := 14) (v := .int .i64 0) rfl (by kernel_rfl) (by kernel_rfl) (by kernel_rfl) (fun _ _ _ h => h) (Or.inl ⟨by rfl, fun w _ => by rfl⟩) hHeld ?_
        show wpAnyH _ _ _ _ _ _ _ (Act.put _ (some 47) _) _
        simp only [Act.put, List.setIfInBounds_toArray, List.set_cons_zero, List.set_cons_succ]
        refine wpAnyH_take (i := 15) (v := .pointer (some ⟨be, oe + k * 8, none⟩)) rfl (by kernel_rfl) (by kernel_rfl) (by kernel_rfl) (fun _ _ _ h => h) (Or.inl ⟨by rfl, by intro w' h; go_simp⟩) hHeld ?_
        show wpAnyH _ _ _ _ _ _ _ (Act.put _ (some 48) _) _
        simp only [Act.put, List.setIfInBounds_toArray, List.set_cons_zero, List.set_cons_succ]
        refine wpAnyH_take (i := 16) (v := .pointer (some ⟨be, oe + k * 8 + 2, none⟩)) rfl (by kernel_rfl) (by kernel_rfl) (by kernel_rfl) (fun _ _ _ h => h) (Or.inl ⟨by rfl, by intro w' h; go_simp⟩) hHeld ?_
        show wpAnyH _ _ _ _ _ _ _ (Act.put _ (some 49) _) _
        simp only [Act.put, List.setIfInBounds_toArray, List.set_cons_zero, List.set_cons_succ]
        refine wpAnyH_take (i := 17) (v := .pointer (some ⟨be, oe + k * 8 + 2, none⟩)) rfl (by kernel_rfl) (by kernel_rfl) (by kernel_rfl) (fun _ _ _ h => h) (Or.inl ⟨by rfl, by intro w' h; go_simp⟩) hHeld ?_
        show wpAnyH _ _ _ _ _ _ _ (Act.put _ (some 50) _) _
        simp only [Act.put, List.setIfInBounds_toArray, List.set_cons_zero, List.set_cons_succ]
        refine wpAnyH_take (i := 18) (v := .int .u64 c) rfl (by kernel_rfl) (by kernel_rfl) (by kernel_rfl) (fun _ _ _ h => h) (Or.inl ⟨by rfl, by intro w' h; have k2 : w'.cell? ⟨be, oe + k * 8 + 2, none⟩ = _ := h.2.2 2 _ rfl; go_simp⟩) hHeld ?_
        show wpAnyH _ _ _ _ _ _ _ (Act.put _ (some 51) _) _
        simp only [Act.put, List.setIfInBounds_toArray, List.set_cons_zero, List.set_cons_succ]
        refine wpAnyH_take (i := 19) (v := .pointer (some ⟨gp, 1, none⟩)) rfl (by kernel_rfl) (by kernel_rfl) (by kernel_rfl) (fun _ _ _ h => h) (Or.inl ⟨by rfl, by intro w' h; go_simp⟩) hHeld ?_
        show wpAnyH _ _ _ _ _ _ _ (Act.put _ (some 52) _) _
        simp only [Act.put, List.setIfInBounds_toArray, List.set_cons_zero, List.set_cons_succ]
        refine wpAnyH_take (i := 20) (v := .slice (some ⟨be, oe, none⟩) el ec) rfl (by kernel_rfl) (by kernel_rfl) (by kernel_rfl) (fun _ _ _ h => h) (Or.inl ⟨by rfl, by intro w' h; have k1 := Blk.cell h.1 1; simp only [List.getElem?_cons_zero, List.getElem?_cons_succ] at k1; go_simp⟩) hHeld ?_
        show wpAnyH _ _ _ _ _ _ _ (Act.put _ (some 53) _) _
        simp only [Act.put, List.setIfInBounds_toArray, List.set_cons_zero, List.set_cons_succ]
        refine wpAnyH_take (i := 21) (v := .int .i64 (k : Int)) rfl (by kernel_rfl) (by kernel_rfl) (by kernel_rfl) (fun _ _ _ h => h) (Or.inl ⟨by rfl, fun w _ => by rfl⟩) hHeld ?_
        show wpAnyH _ _ _ _ _ _ _ (Act.put _ (some 54) _) _
        simp only [Act.put, List.setIfInBounds_toArray, List.set_cons_zero, List.set_cons_succ]
        refine wpAnyH_take (i := 22) (v := .int .i64 0) rfl (by kernel_rfl) (by kernel_rfl) (by kernel_rfl) (fun _ _ _ h => h) (Or.inl ⟨by rfl, fun w _ => by rfl⟩) hHeld ?_
        show wpAnyH _ _ _ _ _ _ _ (Act.put _ (some 55) _) _
        simp only [Act.put, List.setIfInBounds_toArray, List.set_cons_zero, List.set_cons_succ]
        refine wpAnyH_take (i := 23) (v := .pointer (some ⟨be, oe + k * 8, none⟩)) rfl (by kernel_rfl) (by kernel_rfl) (by kernel_rfl) (fun _ _ _ h => h) (Or.inl ⟨by rfl, by intro w' h; go_simp⟩) hHeld ?_
        show wpAnyH _ _ _ _ _ _ _ (Act.put _ (some 56) _) _
        simp only [Act.put, List.setIfInBounds_toArray, List.set_cons_zero, List.set_cons_succ]
        refine wpAnyH_take (i := 24) (v := .pointer (some ⟨be, oe + k * 8 + 4, none⟩)) rfl (by kernel_rfl) (by kernel_rfl) (by kernel_rfl) (fun _ _ _ h => h) (Or.inl ⟨by rfl, by intro w' h; go_simp⟩) hHeld ?_
        show wpAnyH _ _ _ _ _ _ _ (Act.put _ (some 57) _) _
        simp only [Act.put, List.setIfInBounds_toArray, List.set_cons_zero, List.set_cons_succ]
        refine wpAnyH_take (i := 25) (v := .pointer (some ⟨be, oe + k * 8 + 4, none⟩)) rfl (by kernel_rfl) (by kernel_rfl) (by kernel_rfl) (fun _ _ _ h => h) (Or.inl ⟨by rfl, by intro w' h; go_simp⟩) hHeld ?_
        show wpAnyH _ _ _ _ _ _ _ (Act.put _ (some 58) _) _
        simp only [Act.put, List.setIfInBounds_toArray, List.set_cons_zero, List.set_cons_succ]
        refine wpAnyH_take (i := 26) (v := .agg #[.int .u64 f, .int .u64 g]) rfl (by kernel_rfl) (by kernel_rfl) (by kernel_rfl) (fun _ _ _ h => h) (Or.inl ⟨by rfl, by intro w' h; have k0 : w'.cell? ⟨be, oe + k * 8 + 4, none⟩ = _ := h.2.2 4 _ rfl; have k1 : w'.cell? ⟨be, oe + k * 8 + 5, none⟩ = _ := h.2.2 5 _ rfl; go_simp⟩) hHeld ?_
        show wpAnyH _ _ _ _ _ _ _ (Act.put _ (some 59) _) _
        simp only [Act.put, List.setIfInBounds_toArray, List.set_cons_zero, List.set_cons_succ]
        refine wpAnyH_take (i := 27) (v := .agg #[.int .i64 (k : Int), .int .i64 q, .int .u64 c, .int .u64 f, .int .u64 g]) rfl (by kernel_rfl) (by kernel_rfl) (by kernel_rfl) (fun _ _ _ h => h) (Or.inl ⟨by rfl, by intro w' h; kernel_rfl⟩) hHeld ?_
        show wpAnyH _ _ _ _ _ _ _ (Act.put _ (some 60) _) _
        simp only [Act.put, List.setIfInBounds_toArray, List.set_cons_zero, List.set_cons_succ]
        refine wpAnyH_ready (rs := [28]) (by kernel_rfl) (by simp) ?_
        refine AllReadyH.cons rfl (fun K hK => ?_) AllReadyH.nil
        refine step_lay35 rfl 60 rfl k q c f g rfl ?_
        intro X1 gn hB hN hg
        have BX1 : Hid (Below w.heap.size w X1) := Lib.hid (BX0.out.trans (hB.mono BX0.out.size))
        have PX1 : Hid (Blk X1 gp 25 [.slice sa sl sc, .slice (some ⟨be, oe, none⟩) el ec]) := Lib.hid (PX0.out.below hB PX0.out.lt)
        have CX1 : Hid (EdAt X1 be (oe + k * 8) ⟨p, q, c, d, f, g, h, i⟩) := Lib.hid (CX0.out.below hB)
        have OX1 : Hid (World.ownsRow X1 w.heap.size 47 5 v (openL es node 0 k).length (sflat (openL es node 0 k))) := Lib.hid (ownsRow_keep OX0.out hB)
        have NX1 : Hid (Blk X1 gn 47 (scells ⟨k, q, c, f, g⟩)) := Lib.hid (hN)
        clear BX0 PX0 CX0 OX0 hB hN hg
        refine hK.out _ _ (⟨PX1.out, CX1.out⟩) (fun hHeld => ?_)
        clear hK K
        show wpAnyH _ _ _ _ _ _ _ (Act.put _ (some 61) _) _
        simp only [Act.put, List.setIfInBounds_toArray, List.set_cons_zero, List.set_cons_succ]
        refine wpAnyH_ready (rs := [29]) (by kernel_rfl) (by simp) ?_
        refine AllReadyH.cons rfl (fun K hK => ?_) AllReadyH.nil
        refine step_more rfl 35 47 (.inr ⟨rfl, rfl⟩) (.tmp 33) (.tmp 61) rfl w.heap.size v _ rfl OX1.out gn _ rfl NX1.out (by omega) BX1.out.size ?_
        intro v2 X2 hOwn2 hO
        have hOwn := OX1.out
        have hPO := own_ne PX1.out OX1.out (by decide)
        have hCO : EdAt X2 be (oe + k * 8) ⟨p, q, c, d, f, g, h, i⟩ := CX1.out.grown hO (edat_own CX1.out OX1.out HBE.out)
        have BX2 : Hid (Below w.heap.size w X2) := Lib.hid (below_own BX1.out hO hOwn (Nat.le_refl _) BX1.out.size)
        have PX2 : Hid (Blk X2 gp 25 [.slice sa sl sc, .slice (some ⟨be, oe, none⟩) el ec]) := Lib.hid (PX1.out.grown hO hPO)
        have CX2 : Hid (EdAt X2 be (oe + k * 8) ⟨p, q, c, d, f, g, h, i⟩) := Lib.hid (hCO)
        have O2X2 : Hid (World.ownsRow X2 w.heap.size 47 5 v2 (openL es node 0 k ++ [Stp.mk (k : Int) q c f g]).length (sflat (openL es node 0 k ++ [Stp.mk (k : Int) q c f g]))) := Lib.hid (hOwn2)
        clear BX1 PX1 CX1 hOwn hOwn2 hO hCO
        refine hK.out _ _ (⟨PX2.out, CX2.out⟩) (fun hHeld => ?_)
        clear hK K
        show wpAnyH _ _ _ _ _ _ _ (Act.put _ (some 62) _) _
        simp only [Act.put, List.setIfInBounds_toArray, List.set_cons_zero, List.set_cons_succ]
        refine wpAnyH_take (i := 30) (v := v2) rfl (by kernel_rfl) (by kernel_rfl) (by kernel_rfl) (fun _ _ _ h => h) (Or.inl ⟨by rfl, fun w _ => by rfl⟩) hHeld ?_
        show wpAnyH _ _ _ _ _ _ _ (Act.put _ (some 5) _) _
        simp only [Act.put, List.setIfInBounds_toArray, List.set_cons_zero, List.set_cons_succ]
        refine wpAnyH_done (by kernel_rfl) ?_ _
        clear hHeld
        have HN : Hid (X2.ownsRow w.heap.size 47 5 v2 (openL es node 0 (k + 1)).length (sflat (openL es node 0 (k + 1)))) := Lib.hid (by rw [HSU.out, HS.out]; exact O2X2.out)
        have E1 := Lib.hid (HE0.out.below BX2.out)
        have P1 := PX2
        have B1 := BX2
        have e1 : X2.cell? ⟨be, oe + k * 8 + 1, none⟩ = some (.int .i64 q) := CX2.out.2 1 _ rfl
        have cP1 := Blk.cell PX2.out 1
        simp only [List.getElem?_cons_zero, List.getElem?_cons_succ] at cP1
        go_wp2
        rw [rounds_succ]
        go_wp2
        rw [rounds_succ]
        go_wp2
        go_roundw
        case rel => exact ⟨k + 1, v2, by omega, by go_num, rfl, HN, E1, P1, B1⟩
        case measure => simp [intOf] <;> omega
      · by_cases h2 : q = node
        · have b1 : (p == node) = false := by simpa using h1
          have b2 : (q == node) = true := by simpa using h2
          have HS : Hid (stepsAt ⟨p, q, c, d, f, g, h, i⟩ k node 0 = [⟨k, p, d, h, i⟩]) := Lib.hid (by unfold stepsAt sideE; rw [if_neg h1, if_pos h2]; simp [hcd.2, stp1])
          clear h1 h2 hne
          go_wp2
          refine wp_loop_rounds 3 ?_
          rw [rounds_succ]
          go_wp2
          rw [rounds_succ]
          go_wp2_with fail
          have hBz : Below wr.heap.size wr wr.drew := below_drewN (Below.refl _ _) 1
          have BX0 : Hid (Below w.heap.size w wr.drew) := Lib.hid (B.out.trans (hBz.mono B.out.size))
          have PX0 : Hid (Blk wr.drew gp 25 [.slice sa sl sc, .slice (some ⟨be, oe, none⟩) el ec]) := Lib.hid (P.out.below hBz P.out.lt)
          have CX0 : Hid (EdAt wr.drew be (oe + k * 8) ⟨p, q, c, d, f, g, h, i⟩) := Lib.hid (C.out.below hBz)
          have OX0 : Hid (World.ownsRow wr.drew w.heap.size 47 5 v (openL es node 0 k).length (sflat (openL es node 0 k))) := Lib.hid (ownsRow_keep O.out hBz)
          clear hBz
          refine wp_region_held_drew (S := fun w' => Blk w' gp 25 [.slice sa sl sc, .slice (some ⟨be, oe, none⟩) el ec] ∧ EdAt w' be (oe + k * 8) ⟨p, q, c, d, f, g, h, i⟩) (by kernel_rfl) (⟨PX0.out, CX0.out⟩) (fun hHeld => ?_)
          generalize wr.drew = X0 at hHeld BX0 PX0 CX0 OX0 ⊢
          refine wpAnyH_take (i := 0) (v := v) rfl (by kernel_rfl) (by kernel_rfl) (by kernel_rfl) (fun _ _ _ h => h) (Or.inl ⟨by rfl, fun w _ => by rfl⟩) hHeld ?_
          show wpAnyH _ _ _ _ _ _ _ (Act.put _ (some 33) _) _
          simp only [Act.put, List.setIfInBounds_toArray, List.set_cons_zero, List.set_cons_succ]
          refine wpAnyH_take (i := 1) (v := .int .i64 (k : Int)) rfl (by kernel_rfl) (by kernel_rfl) (by kernel_rfl) (fun _ _ _ h => h) (Or.inl ⟨by rfl, fun w _ => by rfl⟩) hHeld ?_
          show wpAnyH _ _ _ _ _ _ _ (Act.put _ (some 34) _) _
          simp only [Act.put, List.setIfInBounds_toArray, List.set_cons_zero, List.set_cons_succ]
          refine wpAnyH_take (i := 2) (v := .pointer (some ⟨gp, 1, none⟩)) rfl (by kernel_rfl) (by kernel_rfl) (by kernel_rfl) (fun _ _ _ h => h) (Or.inl ⟨by rfl, by intro w' h; go_simp⟩) hHeld ?_
          show wpAnyH _ _ _ _ _ _ _ (Act.put _ (some 35) _) _
          simp only [Act.put, List.setIfInBounds_toArray, List.set_cons_zero, List.set_cons_succ]
          refine wpAnyH_take (i := 3) (v := .slice (some ⟨be, oe, none⟩) el ec) rfl (by kernel_rfl) (by kernel_rfl) (by kernel_rfl) (fun _ _ _ h => h) (Or.inl ⟨by rfl, by intro w' h; have k1 := Blk.cell h.1 1; simp only [List.getElem?_cons_zero, List.getElem?_cons_succ] at k1; go_simp⟩) hHeld ?_
          show wpAnyH _ _ _ _ _ _ _ (Act.put _ (some 36) _) _
          simp only [Act.put, List.setIfInBounds_toArray, List.set_cons_zero, List.set_cons_succ]
          refine wpAnyH_take (i := 4) (v := .int .i64 (k : Int)) rfl (by kernel_rfl) (by kernel_rfl) (by kernel_rfl) (fun _ _ _ h => h) (Or.inl ⟨by rfl, fun w _ => by rfl⟩) hHeld ?_
          show wpAnyH _ _ _ _ _ _ _ (Act.put _ (some 37) _) _
          simp only [Act.put, List.setIfInBounds_toArray, List.set_cons_zero, List.set_cons_succ]
          refine wpAnyH_take (i := 5) (v := .int .i64 1) rfl (by kernel_rfl) (by kernel_rfl) (by kernel_rfl) (fun _ _ _ h => h) (Or.inl ⟨by rfl, fun w _ => by rfl⟩) hHeld ?_
          show wpAnyH _ _ _ _ _ _ _ (Act.put _ (some 38) _) _
          simp only [Act.put, List.setIfInBounds_toArray, List.set_cons_zero, List.set_cons_succ]
          refine wpAnyH_take (i := 6) (v := .int .i64 0) rfl (by kernel_rfl) (by kernel_rfl) (by kernel_rfl) (fun _ _ _ h => h) (Or.inl ⟨by rfl, by intro w' h; go_simp; (first | rfl | decide)⟩) hHeld ?_
          show wpAnyH _ _ _ _ _ _ _ (Act.put _ (some 39) _) _
          simp only [Act.put, List.setIfInBounds_toArray, List.set_cons_zero, List.set_cons_succ]
          refine wpAnyH_take (i := 7) (v := .pointer (some ⟨be, oe + k * 8, none⟩)) rfl (by kernel_rfl) (by kernel_rfl) (by kernel_rfl) (fun _ _ _ h => h) (Or.inl ⟨by rfl, by intro w' h; go_simp⟩) hHeld ?_
          show wpAnyH _ _ _ _ _ _ _ (Act.put _ (some 40) _) _
          simp only [Act.put, List.setIfInBounds_toArray, List.set_cons_zero, List.set_cons_succ]
          refine wpAnyH_take (i := 8) (v := .pointer (some ⟨be, oe + k * 8, none⟩)) rfl (by kernel_rfl) (by kernel_rfl) (by kernel_rfl) (fun _ _ _ h => h) (Or.inl ⟨by rfl, by intro w' h; go_simp⟩) hHeld ?_
          show wpAnyH _ _ _ _ _ _ _ (Act.put _ (some 41) _) _
          simp only [Act.put, List.setIfInBounds_toArray, List.set_cons_zero, List.set_cons_succ]
          refine wpAnyH_take (i := 9) (v := .pointer (some ⟨be, oe + k * 8, none⟩)) rfl (by kernel_rfl) (by kernel_rfl) (by kernel_rfl) (fun _ _ _ h => h) (Or.inl ⟨by rfl, by intro w' h; go_simp⟩) hHeld ?_
          show wpAnyH _ _ _ _ _ _ _ (Act.put _ (some 42) _) _
          simp only [Act.put, List.setIfInBounds_toArray, List.set_cons_zero, List.set_cons_succ]
          refine wpAnyH_take (i := 10) (v := .int .i64 p) rfl (by kernel_rfl) (by kernel_rfl) (by kernel_rfl) (fun _ _ _ h => h) (Or.inl ⟨by rfl, by intro w' h; have k0 : w'.cell? ⟨be, oe + k * 8, none⟩ = _ := h.2.2 0 _ rfl; go_simp⟩) hHeld ?_
          show wpAnyH _ _ _ _ _ _ _ (Act.put _ (some 43) _) _
          simp only [Act.put, List.setIfInBounds_toArray, List.set_cons_zero, List.set_cons_succ]
          refine wpAnyH_take (i := 11) (v := .pointer (some ⟨gp, 1, none⟩)) rfl (by kernel_rfl) (by kernel_rfl) (by kernel_rfl) (fun _ _ _ h => h) (Or.inl ⟨by rfl, by intro w' h; go_simp⟩) hHeld ?_
          show wpAnyH _ _ _ _ _ _ _ (Act.put _ (some 44) _) _
          simp only [Act.put, List.setIfInBounds_toArray, List.set_cons_zero, List.set_cons_succ]
          refine wpAnyH_take (i := 12) (v := .slice (some ⟨be, oe, none⟩) el ec) rfl (by kernel_rfl) (by kernel_rfl) (by kernel_rfl) (fun _ _ _ h => h) (Or.inl ⟨by rfl, by intro w' h; have k1 := Blk.cell h.1 1; simp only [List.getElem?_cons_zero, List.getElem?_cons_succ] at k1; go_simp⟩) hHeld ?_
          show wpAnyH _ _ _ _ _ _ _ (Act.put _ (some 45) _) _
          simp only [Act.put, List.setIfInBounds_toArray, List.set_cons_zero, List.set_cons_succ]
          refine wpAnyH_take (i := 13) (v := .int .i64 (k : Int)) rfl (by kernel_rfl) (by kernel_rfl) (by kernel_rfl) (fun _ _ _ h => h) (Or.inl ⟨by rfl, fun w _ => by rfl⟩) hHeld ?_
          show wpAnyH _ _ _ _ _ _ _ (Act.put _ (some 46) _) _
          simp only [Act.put, List.setIfInBounds_toArray, List.set_cons_zero, List.set_cons_succ]
          refine wpAnyH_take (i := 14) (v := .int .i64 1) rfl (by kernel_rfl) (by kernel_rfl) (by kernel_rfl) (fun _ _ _ h => h) (Or.inl ⟨by rfl, fun w _ => by rfl⟩) hHeld ?_
          show wpAnyH _ _ _ _ _ _ _ (Act.put _ (some 47) _) _
          simp only [Act.put, List.setIfInBounds_toArray, List.set_cons_zero, List.set_cons_succ]
          refine wpAnyH_take (i := 15) (v := .pointer (some ⟨be, oe + k * 8, none⟩)) rfl (by kernel_rfl) (by kernel_rfl) (by kernel_rfl) (fun _ _ _ h => h) (Or.inl ⟨by rfl, by intro w' h; go_simp⟩) hHeld ?_
          show wpAnyH _ _ _ _ _ _ _ (Act.put _ (some 48) _) _
          simp only [Act.put, List.setIfInBounds_toArray, List.set_cons_zero, List.set_cons_succ]
          refine wpAnyH_take (i := 16) (v := .pointer (some ⟨be, oe + k * 8 + 2, none⟩)) rfl (by kernel_rfl) (by kernel_rfl) (by kernel_rfl) (fun _ _ _ h => h) (Or.inl ⟨by rfl, by intro w' h; go_simp⟩) hHeld ?_
          show wpAnyH _ _ _ _ _ _ _ (Act.put _ (some 49) _) _
          simp only [Act.put, List.setIfInBounds_toArray, List.set_cons_zero, List.set_cons_succ]
          refine wpAnyH_take (i := 17) (v := .pointer (some ⟨be, oe + k * 8 + 3, none⟩)) rfl (by kernel_rfl) (by kernel_rfl) (by kernel_rfl) (fun _ _ _ h => h) (Or.inl ⟨by rfl, by intro w' h; go_simp⟩) hHeld ?_
          show wpAnyH _ _ _ _ _ _ _ (Act.put _ (some 50) _) _
          simp only [Act.put, List.setIfInBounds_toArray, List.set_cons_zero, List.set_cons_succ]
          refine wpAnyH_take (i := 18) (v := .int .u64 d) rfl (by kernel_rfl) (by kernel_rfl) (by kernel_rfl) (fun _ _ _ h => h) (Or.inl ⟨by rfl, by intro w' h; have k3 : w'.cell? ⟨be, oe + k * 8 + 3, none⟩ = _ := h.2.2 3 _ rfl; go_simp⟩) hHeld ?_
          show wpAnyH _ _ _ _ _ _ _ (Act.put _ (some 51) _) _
          simp only [Act.put, List.setIfInBounds_toArray, List.set_cons_zero, List.set_cons_succ]
          refine wpAnyH_take (i := 19) (v := .pointer (some ⟨gp, 1, none⟩)) rfl (by kernel_rfl) (by kernel_rfl) (by kernel_rfl) (fun _ _ _ h => h) (Or.inl ⟨by rfl, by intro w' h; go_simp⟩) hHeld ?_
          show wpAnyH _ _ _ _ _ _ _ (Act.put _ (some 52) _) _
          simp only [Act.put, List.setIfInBounds_toArray, List.set_cons_zero, List.set_cons_succ]
          refine wpAnyH_take (i := 20) (v := .slice (some ⟨be, oe, none⟩) el ec) rfl (by kernel_rfl) (by kernel_rfl) (by kernel_rfl) (fun _ _ _ h => h) (Or.inl ⟨by rfl, by intro w' h; have k1 := Blk.cell h.1 1; simp only [List.getElem?_cons_zero, List.getElem?_cons_succ] at k1; go_simp⟩) hHeld ?_
          show wpAnyH _ _ _ _ _ _ _ (Act.put _ (some 53) _) _
          simp only [Act.put, List.setIfInBounds_toArray, List.set_cons_zero, List.set_cons_succ]
          refine wpAnyH_take (i := 21) (v := .int .i64 (k : Int)) rfl (by kernel_rfl) (by kernel_rfl) (by kernel_rfl) (fun _ _ _ h => h) (Or.inl ⟨by rfl, fun w _ => by rfl⟩) hHeld ?_
          show wpAnyH _ _ _ _ _ _ _ (Act.put _ (some 54) _) _
          simp only [Act.put, List.setIfInBounds_toArray, List.set_cons_zero, List.set_cons_succ]
          refine wpAnyH_take (i := 22) (v := .int .i64 1) rfl (by kernel_rfl) (by kernel_rfl) (by kernel_rfl) (fun _ _ _ h => h) (Or.inl ⟨by rfl, fun w _ => by rfl⟩) hHeld ?_
          show wpAnyH _ _ _ _ _ _ _ (Act.put _ (some 55) _) _
          simp only [Act.put, List.setIfInBounds_toArray, List.set_cons_zero, List.set_cons_succ]
          refine wpAnyH_take (i := 23) (v := .pointer (some ⟨be, oe + k * 8, none⟩)) rfl (by kernel_rfl) (by kernel_rfl) (by kernel_rfl) (fun _ _ _ h => h) (Or.inl ⟨by rfl, by intro w' h; go_simp⟩) hHeld ?_
          show wpAnyH _ _ _ _ _ _ _ (Act.put _ (some 56) _) _
          simp only [Act.put, List.setIfInBounds_toArray, List.set_cons_zero, List.set_cons_succ]
          refine wpAnyH_take (i := 24) (v := .pointer (some ⟨be, oe + k * 8 + 4, none⟩)) rfl (by kernel_rfl) (by kernel_rfl) (by kernel_rfl) (fun _ _ _ h => h) (Or.inl ⟨by rfl, by intro w' h; go_simp⟩) hHeld ?_
          show wpAnyH _ _ _ _ _ _ _ (Act.put _ (some 57) _) _
          simp only [Act.put, List.setIfInBounds_toArray, List.set_cons_zero, List.set_cons_succ]
          refine wpAnyH_take (i := 25) (v := .pointer (some ⟨be, oe + k * 8 + 6, none⟩)) rfl (by kernel_rfl) (by kernel_rfl) (by kernel_rfl) (fun _ _ _ h => h) (Or.inl ⟨by rfl, by intro w' h; go_simp⟩) hHeld ?_
          show wpAnyH _ _ _ _ _ _ _ (Act.put _ (some 58) _) _
          simp only [Act.put, List.setIfInBounds_toArray, List.set_cons_zero, List.set_cons_succ]
          refine wpAnyH_take (i := 26) (v := .agg #[.int .u64 h, .int .u64 i]) rfl (by kernel_rfl) (by kernel_rfl) (by kernel_rfl) (fun _ _ _ h => h) (Or.inl ⟨by rfl, by intro w' h; have k0 : w'.cell? ⟨be, oe + k * 8 + 6, none⟩ = _ := h.2.2 6 _ rfl; have k1 : w'.cell? ⟨be, oe + k * 8 + 7, none⟩ = _ := h.2.2 7 _ rfl; go_simp⟩) hHeld ?_
          show wpAnyH _ _ _ _ _ _ _ (Act.put _ (some 59) _) _
          simp only [Act.put, List.setIfInBounds_toArray, List.set_cons_zero, List.set_cons_succ]
          refine wpAnyH_take (i := 27) (v := .agg #[.int .i64 (k : Int), .int .i64 p, .int .u64 d, .int .u64 h, .int .u64 i]) rfl (by kernel_rfl) (by kernel_rfl) (by kernel_rfl) (fun _ _ _ h => h) (Or.inl ⟨by rfl, by intro w' h; kernel_rfl⟩) hHeld ?_
          show wpAnyH _ _ _ _ _ _ _ (Act.put _ (some 60) _) _
          simp only [Act.put, List.setIfInBounds_toArray, List.set_cons_zero, List.set_cons_succ]
          refine wpAnyH_ready (rs := [28]) (by kernel_rfl) (by simp) ?_
          refine AllReadyH.cons rfl (fun K hK => ?_) AllReadyH.nil
          refine step_lay35 rfl 60 rfl k p d h i rfl ?_
          intro X1 gn hB hN hg
          have BX1 : Hid (Below w.heap.size w X1) := Lib.hid (BX0.out.trans (hB.mono BX0.out.size))
          have PX1 : Hid (Blk X1 gp 25 [.slice sa sl sc, .slice (some ⟨be, oe, none⟩) el ec]) := Lib.hid (PX0.out.below hB PX0.out.lt)
          have CX1 : Hid (EdAt X1 be (oe + k * 8) ⟨p, q, c, d, f, g, h, i⟩) := Lib.hid (CX0.out.below hB)
          have OX1 : Hid (World.ownsRow X1 w.heap.size 47 5 v (openL es node 0 k).length (sflat (openL es node 0 k))) := Lib.hid (ownsRow_keep OX0.out hB)
          have NX1 : Hid (Blk X1 gn 47 (scells ⟨k, p, d, h, i⟩)) := Lib.hid (hN)
          clear BX0 PX0 CX0 OX0 hB hN hg
          refine hK.out _ _ (⟨PX1.out, CX1.out⟩) (fun hHeld => ?_)
          clear hK K
          show wpAnyH _ _ _ _ _ _ _ (Act.put _ (some 61) _) _
          simp only [Act.put, List.setIfInBounds_toArray, List.set_cons_zero, List.set_cons_succ]
          refine wpAnyH_ready (rs := [29]) (by kernel_rfl) (by simp) ?_
          refine AllReadyH.cons rfl (fun K hK => ?_) AllReadyH.nil
          refine step_more rfl 35 47 (.inr ⟨rfl, rfl⟩) (.tmp 33) (.tmp 61) rfl w.heap.size v _ rfl OX1.out gn _ rfl NX1.out (by omega) BX1.out.size ?_
          intro v2 X2 hOwn2 hO
          have hOwn := OX1.out
          have hPO := own_ne PX1.out OX1.out (by decide)
          have hCO : EdAt X2 be (oe + k * 8) ⟨p, q, c, d, f, g, h, i⟩ := CX1.out.grown hO (edat_own CX1.out OX1.out HBE.out)
          have BX2 : Hid (Below w.heap.size w X2) := Lib.hid (below_own BX1.out hO hOwn (Nat.le_refl _) BX1.out.size)
          have PX2 : Hid (Blk X2 gp 25 [.slice sa sl sc, .slice (some ⟨be, oe, none⟩) el ec]) := Lib.hid (PX1.out.grown hO hPO)
          have CX2 : Hid (EdAt X2 be (oe + k * 8) ⟨p, q, c, d, f, g, h, i⟩) := Lib.hid (hCO)
          have O2X2 : Hid (World.ownsRow X2 w.heap.size 47 5 v2 (openL es node 0 k ++ [Stp.mk (k : Int) p d h i]).length (sflat (openL es node 0 k ++ [Stp.mk (k : Int) p d h i]))) := Lib.hid (hOwn2)
          clear BX1 PX1 CX1 hOwn hOwn2 hO hCO
          refine hK.out _ _ (⟨PX2.out, CX2.out⟩) (fun hHeld => ?_)
          clear hK K
          show wpAnyH _ _ _ _ _ _ _ (Act.put _ (some 62) _) _
          simp only [Act.put, List.setIfInBounds_toArray, List.set_cons_zero, List.set_cons_succ]
          refine wpAnyH_take (i := 30) (v := v2) rfl (by kernel_rfl) (by kernel_rfl) (by kernel_rfl) (fun _ _ _ h => h) (Or.inl ⟨by rfl, fun w _ => by rfl⟩) hHeld ?_
          show wpAnyH _ _ _ _ _ _ _ (Act.put _ (some 5) _) _
          simp only [Act.put, List.setIfInBounds_toArray, List.set_cons_zero, List.set_cons_succ]
          refine wpAnyH_done (by kernel_rfl) ?_ _
          clear hHeld
          have HN : Hid (X2.ownsRow w.heap.size 47 5 v2 (openL es node 0 (k + 1)).length (sflat (openL es node 0 (k + 1)))) := Lib.hid (by rw [HSU.out, HS.out]; exact O2X2.out)
          have E1 := Lib.hid (HE0.out.below BX2.out)
          have P1 := PX2
          have B1 := BX2
          go_wp2
          rw [rounds_succ]
          go_wp2
          go_roundw
          case rel => exact ⟨k + 1, v2, by omega, by go_num, rfl, HN, E1, P1, B1⟩
          case measure => simp [intOf] <;> omega
        · have b1 : (p == node) = false := by simpa using h1
          have b2 : (q == node) = false := by simpa using h2
          have HS : Hid (stepsAt ⟨p, q, c, d, f, g, h, i⟩ k node 0 = []) := Lib.hid (by unfold stepsAt sideE; rw [if_neg h1, if_neg h2]; rfl)
          clear h1 h2 hne
          go_wp2
          refine wp_loop_rounds 3 ?_
          rw [rounds_succ]
          go_wp2
          rw [rounds_succ]
          go_wp2
          rw [rounds_succ]
          go_wp2
          have HN : Hid (wr.ownsRow w.heap.size 47 5 v (openL es node 0 (k + 1)).length (sflat (openL es node 0 (k + 1)))) := Lib.hid (by rw [HSU.out, HS.out, List.append_nil]; exact O.out)
          have E1 := E0
          have P1 := P
          have B1 := B
          go_roundw
          case rel => exact ⟨k + 1, v, by omega, by go_num, rfl, HN, E1, P1, B1⟩
          case measure => simp [intOf] <;> omega
    · obtain rfl : k = el := by omega
      have cP0 := Blk.cell P.out 0
      have cP1 := Blk.cell P.out 1
      simp only [List.getElem?_cons_zero, List.getElem?_cons_succ] at cP0 cP1
      go_wp2
      go_ret
      exact ⟨v, rfl, by rw [HEL.out]; exact O.out, B.out⟩

theorem rsteps_any (sa : Option Addr) (sl sc : Nat) (ea : Option Addr) (el ec : Nat) (es : List Ed) (node : Int) (w : World) (hE : EdgeRow w ea es) (hel : es.length = el) (hel2 : el ≤ 90) (hsl2 : sl ≤ 1000) (hok : ∀ e ∈ es, EdOk e) :
    Calls Try.prog 17 #[.agg #[.slice sa sl sc, .slice ea el ec], .int .i64 node] w (StepsPost 47 w (stepsL sl es node 0)) := by
  unfold stepsL
  by_cases hc : checkE sl es = 0
  · rw [if_pos hc]; exact rsteps_good sa sl sc ea el ec es node w hE hel hel2 hsl2 hc hok
  · rw [if_neg hc]; exact rsteps_bad sa sl sc ea el ec es node w hE hel (by omega) hsl2 hc
end Go.Proofs.Ytnnimjaigciedaa
