/-
  web's open and Steps.
-/
import Derived.Test.YtnnimjaigciedaaM07
namespace Go.Proofs.Ytnnimjaigciedaa
open Go.RowKit
set_option linter.unusedVariables false

set_option maxRecDepth 100000 in
set_option maxHeartbeats 4000000 in
theorem open_bad (sa : Option Addr) (sl sc : Nat) (ea : Option Addr) (el ec : Nat) (es : List Ed) (node amt : Int) (w : World) (hE : EdgeRow w ea es) (hel : es.length = el) (hel2 : el ≤ 1000) (hsl2 : sl ≤ 1000) (hc : checkE sl es ≠ 0) :
    Calls Try.prog 46 #[.agg #[.slice sa sl sc, .slice ea el ec], .int .i64 node, .int .u64 amt] w (StepsPost 44 w []) := by
  have b0 : (checkE sl es != 0) = true := by simpa using hc
  have E0w := Lib.hid hE
  have Bw : Hid (Below w.heap.size w w) := Lib.hid (Below.refl _ _)
  have HEL := Lib.hid hel
  clear hE hel hc
  go_enter Try.func46, Try.ntmps46
  have hB : Below w.heap.size w (w.alloc (.cells #[.slice sa sl sc, .slice ea el ec] 31)) := (Below.refl _ _).alloc (Nat.le_refl _) _
  have BY1 : Hid (Below w.heap.size w (w.alloc (.cells #[.slice sa sl sc, .slice ea el ec] 31))) := Lib.hid (Bw.out.trans (hB.mono Bw.out.size))
  have E0Y1 : Hid (EdgeRow (w.alloc (.cells #[.slice sa sl sc, .slice ea el ec] 31)) ea es) := Lib.hid (E0w.out.below hB)
  have PY1 : Hid (Blk (w.alloc (.cells #[.slice sa sl sc, .slice ea el ec] 31)) w.heap.size 31 [.slice sa sl sc, .slice ea el ec]) := Lib.hid (Blk.new _ _ [.slice sa sl sc, .slice ea el ec])
  clear hB Bw E0w
  go_wp2_with fail
  generalize (w.alloc (.cells #[.slice sa sl sc, .slice ea el ec] 31)) = Y1 at BY1 E0Y1 PY1 ⊢
  generalize w.heap.size = gp at PY1 ⊢
  refine (check_any sa sl sc ea el ec es Y1 E0Y1.out HEL.out (by omega) (by omega)).mono ?_
  rintro e Y2 ⟨rfl, hB⟩
  have BY2 : Hid (Below w.heap.size w Y2) := Lib.hid (BY1.out.trans (hB.mono BY1.out.size))
  have E0Y2 : Hid (EdgeRow Y2 ea es) := Lib.hid (E0Y1.out.below hB)
  have PY2 : Hid (Blk Y2 gp 31 [.slice sa sl sc, .slice ea el ec]) := Lib.hid (PY1.out.below hB PY1.out.lt)
  clear BY1 E0Y1 PY1
  clear hB
  go_wp2
  go_ret
  exact ⟨_, rfl, World.ownsRow_nil _ _ _ _, BY2.out⟩

set_option maxRecDepth 100000 in
set_option maxHeartbeats 8000000 in
theorem open_good (sa : Option Addr) (sl sc : Nat) (ea : Option Addr) (el ec : Nat) (es : List Ed) (node amt : Int) (w : World) (hE : EdgeRow w ea es) (hel : es.length = el) (hel2 : el ≤ 90) (hsl2 : sl ≤ 1000) (hc : checkE sl es = 0) :
    Calls Try.prog 46 #[.agg #[.slice sa sl sc, .slice ea el ec], .int .i64 node, .int .u64 amt] w (StepsPost 44 w (openL es node amt es.length)) := by
  have E0w := Lib.hid hE
  have Bw : Hid (Below w.heap.size w w) := Lib.hid (Below.refl _ _)
  have HEL := Lib.hid hel
  have HC := Lib.hid hc
  have HE0 := E0w
  clear hE hel hc
  go_enter Try.func46, Try.ntmps46
  have hB : Below w.heap.size w (w.alloc (.cells #[.slice sa sl sc, .slice ea el ec] 31)) := (Below.refl _ _).alloc (Nat.le_refl _) _
  have BY1 : Hid (Below w.heap.size w (w.alloc (.cells #[.slice sa sl sc, .slice ea el ec] 31))) := Lib.hid (Bw.out.trans (hB.mono Bw.out.size))
  have E0Y1 : Hid (EdgeRow (w.alloc (.cells #[.slice sa sl sc, .slice ea el ec] 31)) ea es) := Lib.hid (E0w.out.below hB)
  have PY1 : Hid (Blk (w.alloc (.cells #[.slice sa sl sc, .slice ea el ec] 31)) w.heap.size 31 [.slice sa sl sc, .slice ea el ec]) := Lib.hid (Blk.new _ _ [.slice sa sl sc, .slice ea el ec])
  clear hB Bw E0w
  go_wp2_with fail
  generalize (w.alloc (.cells #[.slice sa sl sc, .slice ea el ec] 31)) = Y1 at BY1 E0Y1 PY1 ⊢
  generalize w.heap.size = gp at PY1 ⊢
  refine (check_any sa sl sc ea el ec es Y1 E0Y1.out HEL.out (by omega) (by omega)).mono ?_
  rintro e Y2 ⟨rfl, hB⟩
  have BY2 : Hid (Below w.heap.size w Y2) := Lib.hid (BY1.out.trans (hB.mono BY1.out.size))
  have E0Y2 : Hid (EdgeRow Y2 ea es) := Lib.hid (E0Y1.out.below hB)
  have PY2 : Hid (Blk Y2 gp 31 [.slice sa sl sc, .slice ea el ec]) := Lib.hid (PY1.out.below hB PY1.out.lt)
  clear BY1 E0Y1 PY1
  clear hB
  rw [HC.out]
  have cP0 := Blk.cell PY2.out 0
  have cP1 := Blk.cell PY2.out 1
  simp only [List.getElem?_cons_zero, List.getElem?_cons_succ] at cP0 cP1
  go_wp2
  clear cP0 cP1
  clear PY2
  have HO0 : Hid (Y2.ownsRow w.heap.size 44 5 (.slice none 0 0) 0 (sflat [])) := Lib.hid (World.ownsRow_nil _ _ _ _)
  go_loopw [7, 8, 9, 10, 17] (fun l _ _ _ i wd => ∃ (k : Nat) (v : Value), k ≤ el ∧ i = .int .i64 k ∧ v = l ∧ Hid (wd.ownsRow w.heap.size 44 5 v (openL es node amt k).length (sflat (openL es node amt k))) ∧ Hid (EdgeRow wd ea es) ∧ Hid (Below w.heap.size w wd)) (fun _ _ _ _ i _ => el - (intOf i).toNat)
  case atStart => exact ⟨0, _, Nat.zero_le _, rfl, rfl, HO0, E0Y2, BY2⟩
  case round =>
    clear HO0 E0Y2 BY2
    obtain ⟨k, v, hk, rfl, rfl, O, E0, B⟩ := hrel
    by_cases hlt : k < el
    · have hk' : k < es.length := by rw [HEL.out]; exact hlt
      obtain ⟨be, oe, rfl, hce⟩ := E0.out.at_ hk'
      obtain ⟨p, q, c, d, f, g, h, i, hx⟩ : ∃ p q c d f g h i, es.getD k ed0 = ⟨p, q, c, d, f, g, h, i⟩ := ⟨_, _, _, _, _, _, _, _, rfl⟩
      rw [hx] at hce
      have HX := Lib.hid hx
      have e0 : wr.cell? ⟨be, oe + k * 8, none⟩ = some (.int .i64 p) := hce.2 0 _ rfl
      have e1 : wr.cell? ⟨be, oe + k * 8 + 1, none⟩ = some (.int .i64 q) := hce.2 1 _ rfl
      have e2 : wr.cell? ⟨be, oe + k * 8 + 2, none⟩ = some (.int .u64 c) := hce.2 2 _ rfl
      have e3 : wr.cell? ⟨be, oe + k * 8 + 3, none⟩ = some (.int .u64 d) := hce.2 3 _ rfl
      have e4 : wr.cell? ⟨be, oe + k * 8 + 4, none⟩ = some (.int .u64 f) := hce.2 4 _ rfl
      have e5 : wr.cell? ⟨be, oe + k * 8 + 5, none⟩ = some (.int .u64 g) := hce.2 5 _ rfl
      have e6 : wr.cell? ⟨be, oe + k * 8 + 6, none⟩ = some (.int .u64 h) := hce.2 6 _ rfl
      have e7 : wr.cell? ⟨be, oe + k * 8 + 7, none⟩ = some (.int .u64 i) := hce.2 7 _ rfl
      have hlk := openL_length es node amt k
      have HSU : Hid (openL es node amt (k + 1) = openL es node amt k ++ stepsAt ⟨p, q, c, d, f, g, h, i⟩ k node amt) := Lib.hid (by rw [openL, HX.out])
      clear hce hx hk'
      have Bwr := B
      have E0wr := E0
      have Owr := O
      clear B E0 O
      have hB : Below wr.heap.size wr (wr.alloc (.cells #[.int .i64 p, .int .i64 q, .int .u64 c, .int .u64 d, .int .u64 f, .int .u64 g, .int .u64 h, .int .u64 i] 52)) := (Below.refl _ _).alloc (Nat.le_refl _) _
      have BY1 : Hid (Below w.heap.size w (wr.alloc (.cells #[.int .i64 p, .int .i64 q, .int .u64 c, .int .u64 d, .int .u64 f, .int .u64 g, .int .u64 h, .int .u64 i] 52))) := Lib.hid (Bwr.out.trans (hB.mono Bwr.out.size))
      have E0Y1 : Hid (EdgeRow (wr.alloc (.cells #[.int .i64 p, .int .i64 q, .int .u64 c, .int .u64 d, .int .u64 f, .int .u64 g, .int .u64 h, .int .u64 i] 52)) (some ⟨be, oe, none⟩) es) := Lib.hid (E0wr.out.below hB)
      have OY1 : Hid (World.ownsRow (wr.alloc (.cells #[.int .i64 p, .int .i64 q, .int .u64 c, .int .u64 d, .int .u64 f, .int .u64 g, .int .u64 h, .int .u64 i] 52)) w.heap.size 44 5 v (openL es node amt k).length (sflat (openL es node amt k))) := Lib.hid (ownsRow_keep Owr.out hB)
      have VY1 : Hid (Blk (wr.alloc (.cells #[.int .i64 p, .int .i64 q, .int .u64 c, .int .u64 d, .int .u64 f, .int .u64 g, .int .u64 h, .int .u64 i] 52)) wr.heap.size 52 [.int .i64 p, .int .i64 q, .int .u64 c, .int .u64 d, .int .u64 f, .int .u64 g, .int .u64 h, .int .u64 i]) := Lib.hid (Blk.new _ _ [.int .i64 p, .int .i64 q, .int .u64 c, .int .u64 d, .int .u64 f, .int .u64 g, .int .u64 h, .int .u64 i])
      clear hB Bwr E0wr Owr
      go_wp2_with fail
      generalize (wr.alloc (.cells #[.int .i64 p, .int .i64 q, .int .u64 c, .int .u64 d, .int .u64 f, .int .u64 g, .int .u64 h, .int .u64 i] 52)) = Y1 at BY1 E0Y1 OY1 VY1 ⊢
      generalize wr.heap.size = gv at VY1 ⊢
      clear e0 e1 e2 e3 e4 e5 e6 e7
      refine (eside_any ⟨p, q, c, d, f, g, h, i⟩ node Y1).mono ?_
      rintro e Y2 ⟨rfl, hB⟩
      have BY2 : Hid (Below w.heap.size w Y2) := Lib.hid (BY1.out.trans (hB.mono BY1.out.size))
      have E0Y2 : Hid (EdgeRow Y2 (some ⟨be, oe, none⟩) es) := Lib.hid (E0Y1.out.below hB)
      have OY2 : Hid (World.ownsRow Y2 w.heap.size 44 5 v (openL es node amt k).length (sflat (openL es node amt k))) := Lib.hid (ownsRow_keep OY1.out hB)
      have VY2 : Hid (Blk Y2 gv 52 [.int .i64 p, .int .i64 q, .int .u64 c, .int .u64 d, .int .u64 f, .int .u64 g, .int .u64 h, .int .u64 i]) := Lib.hid (VY1.out.below hB VY1.out.lt)
      clear BY1 E0Y1 OY1 VY1
      clear hB
      rcases sideE_cases ⟨p, q, c, d, f, g, h, i⟩ node with hsd | hsd | hsd
      · have HS : Hid (stepsAt ⟨p, q, c, d, f, g, h, i⟩ k node amt = []) := Lib.hid (by unfold stepsAt; rw [hsd]; rfl)
        rw [hsd]
        clear hsd
        have cV0 := Blk.cell VY2.out 0
        have cV1 := Blk.cell VY2.out 1
        have cV2 := Blk.cell VY2.out 2
        have cV3 := Blk.cell VY2.out 3
        simp only [List.getElem?_cons_zero, List.getElem?_cons_succ] at cV0 cV1 cV2 cV3
        have HN : Hid (Y2.ownsRow w.heap.size 44 5 v (openL es node amt (k + 1)).length (sflat (openL es node amt (k + 1)))) := Lib.hid (by rw [HSU.out, HS.out, List.append_nil]; exact OY2.out)
        go_wp2
        clear cV0 cV1 cV2 cV3
        go_roundw
        case rel => exact ⟨k + 1, v, by omega, by go_num, rfl, HN, E0Y2, BY2⟩
        case measure => simp [intOf] <;> omega
      · by_cases hle : amt ≤ c
        · have HS : Hid (stepsAt ⟨p, q, c, d, f, g, h, i⟩ k node amt = [⟨k, q, c, f, g⟩]) := Lib.hid (by unfold stepsAt; rw [hsd]; simp [hle, stp0])
          rw [hsd]
          clear hsd
          have dle : decide (amt ≤ c) = true := decide_eq_true hle
          clear hle
          have cV0 := Blk.cell VY2.out 0
          have cV1 := Blk.cell VY2.out 1
          have cV2 := Blk.cell VY2.out 2
          have cV3 := Blk.cell VY2.out 3
          simp only [List.getElem?_cons_zero, List.getElem?_cons_succ] at cV0 cV1 cV2 cV3
          go_wp2_with fail
          clear cV0 cV1 cV2 cV3
          have hBz : Below Y2.heap.size Y2 Y2.drew := below_drewN (Below.refl _ _) 1
          have BX0 : Hid (Below w.heap.size w Y2.drew) := Lib.hid (BY2.out.trans (hBz.mono BY2.out.size))
          have E0X0 : Hid (EdgeRow Y2.drew (some ⟨be, oe, none⟩) es) := Lib.hid (E0Y2.out.below hBz)
          have OX0 : Hid (World.ownsRow Y2.drew w.heap.size 44 5 v (openL es node amt k).length (sflat (openL es node amt k))) := Lib.hid (ownsRow_keep OY2.out hBz)
          have VX0 : Hid (Blk Y2.drew gv 52 [.int .i64 p, .int .i64 q, .int .u64 c, .int .u64 d, .int .u64 f, .int .u64 g, .int .u64 h, .int .u64 i]) := Lib.hid (VY2.out.below hBz VY2.out.lt)
          clear hBz
          refine wp_region_held_drew (S := fun w' => Blk w' gv 52 [.int .i64 p, .int .i64 q, .int .u64 c, .int .u64 d, .int .u64 f, .int .u64 g, .int .u64 h, .int .u64 i]) (by kernel_rfl) (VX0.out) (fun hHeld => ?_)
          generalize Y2.drew = X0 at hHeld BX0 E0X0 OX0 VX0 ⊢
          refine wpAnyH_take (i := 0) (v := v) rfl (by kernel_rfl) (by kernel_rfl) (by kernel_rfl) (fun _ _ _ h => h) (Or.inl ⟨by rfl, fun w _ => by rfl⟩) hHeld ?_
          show wpAnyH _ _ _ _ _ _ _ (Act.put _ (some 35) _) _
          simp only [Act.put, List.setIfInBounds_toArray, List.set_cons_zero, List.set_cons_succ]
          refine wpAnyH_take (i := 1) (v := .int .i64 (k : Int)) rfl (by kernel_rfl) (by kernel_rfl) (by kernel_rfl) (fun _ _ _ h => h) (Or.inl ⟨by rfl, fun w _ => by rfl⟩) hHeld ?_
          show wpAnyH _ _ _ _ _ _ _ (Act.put _ (some 36) _) _
          simp only [Act.put, List.setIfInBounds_toArray, List.set_cons_zero, List.set_cons_succ]
          refine wpAnyH_take (i := 2) (v := .int .i64 0) rfl (by kernel_rfl) (by kernel_rfl) (by kernel_rfl) (fun _ _ _ h => h) (Or.inl ⟨by rfl, fun w _ => by rfl⟩) hHeld ?_
          show wpAnyH _ _ _ _ _ _ _ (Act.put _ (some 37) _) _
          simp only [Act.put, List.setIfInBounds_toArray, List.set_cons_zero, List.set_cons_succ]
          refine wpAnyH_take (i := 3) (v := .int .i64 1) rfl (by kernel_rfl) (by kernel_rfl) (by kernel_rfl) (fun _ _ _ h => h) (Or.inl ⟨by rfl, by intro w' h; go_simp; (first | rfl | decide)⟩) hHeld ?_
          show wpAnyH _ _ _ _ _ _ _ (Act.put _ (some 38) _) _
          simp only [Act.put, List.setIfInBounds_toArray, List.set_cons_zero, List.set_cons_succ]
          refine wpAnyH_take (i := 4) (v := .pointer (some ⟨gv, 0, none⟩)) rfl (by kernel_rfl) (by kernel_rfl) (by kernel_rfl) (fun _ _ _ h => h) (Or.inl ⟨by rfl, by intro w' h; go_simp⟩) hHeld ?_
          show wpAnyH _ _ _ _ _ _ _ (Act.put _ (some 39) _) _
          simp only [Act.put, List.setIfInBounds_toArray, List.set_cons_zero, List.set_cons_succ]
          refine wpAnyH_take (i := 5) (v := .pointer (some ⟨gv, 1, none⟩)) rfl (by kernel_rfl) (by kernel_rfl) (by kernel_rfl) (fun _ _ _ h => h) (Or.inl ⟨by rfl, by intro w' h; go_simp⟩) hHeld ?_
          show wpAnyH _ _ _ _ _ _ _ (Act.put _ (some 40) _) _
          simp only [Act.put, List.setIfInBounds_toArray, List.set_cons_zero, List.set_cons_succ]
          refine wpAnyH_take (i := 6) (v := .int .i64 q) rfl (by kernel_rfl) (by kernel_rfl) (by kernel_rfl) (fun _ _ _ h => h) (Or.inl ⟨by rfl, by intro w' h; have k1 := Blk.cell h 1; simp only [List.getElem?_cons_zero, List.getElem?_cons_succ] at k1; go_simp⟩) hHeld ?_
          show wpAnyH _ _ _ _ _ _ _ (Act.put _ (some 41) _) _
          simp only [Act.put, List.setIfInBounds_toArray, List.set_cons_zero, List.set_cons_succ]
          refine wpAnyH_take (i := 7) (v := .int .i64 0) rfl (by kernel_rfl) (by kernel_rfl) (by kernel_rfl) (fun _ _ _ h => h) (Or.inl ⟨by rfl, fun w _ => by rfl⟩) hHeld ?_
          show wpAnyH _ _ _ _ _ _ _ (Act.put _ (some 42) _) _
          simp only [Act.put, List.setIfInBounds_toArray, List.set_cons_zero, List.set_cons_succ]
          refine wpAnyH_take (i := 8) (v := .pointer (some ⟨gv, 2, none⟩)) rfl (by kernel_rfl) (by kernel_rfl) (by kernel_rfl) (fun _ _ _ h => h) (Or.inl ⟨by rfl, by intro w' h; go_simp⟩) hHeld ?_
          show wpAnyH _ _ _ _ _ _ _ (Act.put _ (some 43) _) _
          simp only [Act.put, List.setIfInBounds_toArray, List.set_cons_zero, List.set_cons_succ]
          refine wpAnyH_take (i := 9) (v := .pointer (some ⟨gv, 2, none⟩)) rfl (by kernel_rfl) (by kernel_rfl) (by kernel_rfl) (fun _ _ _ h => h) (Or.inl ⟨by rfl, by intro w' h; go_simp⟩) hHeld ?_
          show wpAnyH _ _ _ _ _ _ _ (Act.put _ (some 44) _) _
          simp only [Act.put, List.setIfInBounds_toArray, List.set_cons_zero, List.set_cons_succ]
          refine wpAnyH_take (i := 10) (v := .int .u64 c) rfl (by kernel_rfl) (by kernel_rfl) (by kernel_rfl) (fun _ _ _ h => h) (Or.inl ⟨by rfl, by intro w' h; have k2 := Blk.cell h 2; simp only [List.getElem?_cons_zero, List.getElem?_cons_succ] at k2; go_simp⟩) hHeld ?_
          show wpAnyH _ _ _ _ _ _ _ (Act.put _ (some 45) _) _
          simp only [Act.put, List.setIfInBounds_toArray, List.set_cons_zero, List.set_cons_succ]
          refine wpAnyH_take (i := 11) (v := .int .i64 0) rfl (by kernel_rfl) (by kernel_rfl) (by kernel_rfl) (fun _ _ _ h => h) (Or.inl ⟨by rfl, fun w _ => by rfl⟩) hHeld ?_
          show wpAnyH _ _ _ _ _ _ _ (Act.put _ (some 46) _) _
          simp only [Act.put, List.setIfInBounds_toArray, List.set_cons_zero, List.set_cons_succ]
          refine wpAnyH_take (i := 12) (v := .pointer (some ⟨gv, 4, none⟩)) rfl (by kernel_rfl) (by kernel_rfl) (by kernel_rfl) (fun _ _ _ h => h) (Or.inl ⟨by rfl, by intro w' h; go_simp⟩) hHeld ?_
          show wpAnyH _ _ _ _ _ _ _ (Act.put _ (some 47) _) _
          simp only [Act.put, List.setIfInBounds_toArray, List.set_cons_zero, List.set_cons_succ]
          refine wpAnyH_take (i := 13) (v := .pointer (some ⟨gv, 4, none⟩)) rfl (by kernel_rfl) (by kernel_rfl) (by kernel_rfl) (fun _ _ _ h => h) (Or.inl ⟨by rfl, by intro w' h; go_simp⟩) hHeld ?_
          show wpAnyH _ _ _ _ _ _ _ (Act.put _ (some 48) _) _
          simp only [Act.put, List.setIfInBounds_toArray, List.set_cons_zero, List.set_cons_succ]
          refine wpAnyH_take (i := 14) (v := .agg #[.int .u64 f, .int .u64 g]) rfl (by kernel_rfl) (by kernel_rfl) (by kernel_rfl) (fun _ _ _ h => h) (Or.inl ⟨by rfl, by intro w' h; have k0 := Blk.cell h 4; have k1 := Blk.cell h 5; simp only [List.getElem?_cons_zero, List.getElem?_cons_succ] at k0 k1; go_simp⟩) hHeld ?_
          show wpAnyH _ _ _ _ _ _ _ (Act.put _ (some 49) _) _
          simp only [Act.put, List.setIfInBounds_toArray, List.set_cons_zero, List.set_cons_succ]
          refine wpAnyH_take (i := 15) (v := .agg #[.int .i64 (k : Int), .int .i64 q, .int .u64 c, .int .u64 f, .int .u64 g]) rfl (by kernel_rfl) (by kernel_rfl) (by kernel_rfl) (fun _ _ _ h => h) (Or.inl ⟨by rfl, by intro w' h; kernel_rfl⟩) hHeld ?_
          show wpAnyH _ _ _ _ _ _ _ (Act.put _ (some 50) _) _
          simp only [Act.put, List.setIfInBounds_toArray, List.set_cons_zero, List.set_cons_succ]
          refine wpAnyH_ready (rs := [16]) (by kernel_rfl) (by simp) ?_
          refine AllReadyH.cons rfl (fun K hK => ?_) AllReadyH.nil
          refine step_lay33 rfl 50 rfl k q c f g rfl ?_
          intro X1 gn hB hN hg
          have BX1 : Hid (Below w.heap.size w X1) := Lib.hid (BX0.out.trans (hB.mono BX0.out.size))
          have E0X1 : Hid (EdgeRow X1 (some ⟨be, oe, none⟩) es) := Lib.hid (E0X0.out.below hB)
          have OX1 : Hid (World.ownsRow X1 w.heap.size 44 5 v (openL es node amt k).length (sflat (openL es node amt k))) := Lib.hid (ownsRow_keep OX0.out hB)
          have VX1 : Hid (Blk X1 gv 52 [.int .i64 p, .int .i64 q, .int .u64 c, .int .u64 d, .int .u64 f, .int .u64 g, .int .u64 h, .int .u64 i]) := Lib.hid (VX0.out.below hB VX0.out.lt)
          have NX1 : Hid (Blk X1 gn 44 (scells ⟨k, q, c, f, g⟩)) := Lib.hid (hN)
          clear BX0 E0X0 OX0 VX0 hB hN hg
          refine hK.out _ _ (VX1.out) (fun hHeld => ?_)
          clear hK K
          show wpAnyH _ _ _ _ _ _ _ (Act.put _ (some 51) _) _
          simp only [Act.put, List.setIfInBounds_toArray, List.set_cons_zero, List.set_cons_succ]
          refine wpAnyH_ready (rs := [17]) (by kernel_rfl) (by simp) ?_
          refine AllReadyH.cons rfl (fun K hK => ?_) AllReadyH.nil
          refine step_more rfl 33 44 (.inl ⟨rfl, rfl⟩) (.tmp 35) (.tmp 51) rfl w.heap.size v _ rfl OX1.out gn _ rfl NX1.out (by omega) BX1.out.size ?_
          intro v2 X2 hOwn2 hO
          have hOwn := OX1.out
          have hVO := own_ne VX1.out OX1.out (by decide)
          have BX2 : Hid (Below w.heap.size w X2) := Lib.hid (below_own BX1.out hO hOwn (Nat.le_refl _) BX1.out.size)
          have VX2 : Hid (Blk X2 gv 52 [.int .i64 p, .int .i64 q, .int .u64 c, .int .u64 d, .int .u64 f, .int .u64 g, .int .u64 h, .int .u64 i]) := Lib.hid (VX1.out.grown hO hVO)
          have O2X2 : Hid (World.ownsRow X2 w.heap.size 44 5 v2 (openL es node amt k ++ [Stp.mk (k : Int) q c f g]).length (sflat (openL es node amt k ++ [Stp.mk (k : Int) q c f g]))) := Lib.hid (hOwn2)
          have E0X2 : Hid (EdgeRow X2 (some ⟨be, oe, none⟩) es) := Lib.hid (HE0.out.below BX2.out)
          clear BX1 VX1 hOwn hOwn2 hO
          refine hK.out _ _ (VX2.out) (fun hHeld => ?_)
          clear hK K
          show wpAnyH _ _ _ _ _ _ _ (Act.put _ (some 52) _) _
          simp only [Act.put, List.setIfInBounds_toArray, List.set_cons_zero, List.set_cons_succ]
          refine wpAnyH_take (i := 18) (v := v2) rfl (by kernel_rfl) (by kernel_rfl) (by kernel_rfl) (fun _ _ _ h => h) (Or.inl ⟨by rfl, fun w _ => by rfl⟩) hHeld ?_
          show wpAnyH _ _ _ _ _ _ _ (Act.put _ (some 7) _) _
          simp only [Act.put, List.setIfInBounds_toArray, List.set_cons_zero, List.set_cons_succ]
          refine wpAnyH_done (by kernel_rfl) ?_ _
          clear hHeld
          have HN : Hid (X2.ownsRow w.heap.size 44 5 v2 (openL es node amt (k + 1)).length (sflat (openL es node amt (k + 1)))) := Lib.hid (by rw [HSU.out, HS.out]; exact O2X2.out)
          go_wp2
          go_roundw
          case rel => exact ⟨k + 1, v2, by omega, by go_num, rfl, HN, E0X2, BX2⟩
          case measure => simp [intOf] <;> omega
        · have dle : decide (amt ≤ c) = false := decide_eq_false hle
          have HS : Hid (stepsAt ⟨p, q, c, d, f, g, h, i⟩ k node amt = []) := Lib.hid (by unfold stepsAt; rw [hsd]; simp [hle])
          rw [hsd]
          clear hsd
          have cV0 := Blk.cell VY2.out 0
          have cV1 := Blk.cell VY2.out 1
          have cV2 := Blk.cell VY2.out 2
          have cV3 := Blk.cell VY2.out 3
          simp only [List.getElem?_cons_zero, List.getElem?_cons_succ] at cV0 cV1 cV2 cV3
          have HN : Hid (Y2.ownsRow w.heap.size 44 5 v (openL es node amt (k + 1)).length (sflat (openL es node amt (k + 1)))) := Lib.hid (by rw [HSU.out, HS.out, List.append_nil]; exact OY2.out)
          go_wp2
          clear cV0 cV1 cV2 cV3
          go_roundw
          case rel => exact ⟨k + 1, v, by omega, by go_num, rfl, HN, E0Y2, BY2⟩
          case measure => simp [intOf] <;> omega
      · by_cases hle : amt ≤ d
        · have HS : Hid (stepsAt ⟨p, q, c, d, f, g, h, i⟩ k node amt = [⟨k, p, d, h, i⟩]) := Lib.hid (by unfold stepsAt; rw [hsd]; simp [hle, stp1])
          rw [hsd]
          clear hsd
          have dle : decide (amt ≤ d) = true := decide_eq_true hle
          clear hle
          have cV0 := Blk.cell VY2.out 0
          have cV1 := Blk.cell VY2.out 1
          have cV2 := Blk.cell VY2.out 2
          have cV3 := Blk.cell VY2.out 3
          simp only [List.getElem?_cons_zero, List.getElem?_cons_succ] at cV0 cV1 cV2 cV3
          go_wp2_with fail
          clear cV0 cV1 cV2 cV3
          have hBz : Below Y2.heap.size Y2 Y2.drew := below_drewN (Below.refl _ _) 1
          have BX0 : Hid (Below w.heap.size w Y2.drew) := Lib.hid (BY2.out.trans (hBz.mono BY2.out.size))
          have E0X0 : Hid (EdgeRow Y2.drew (some ⟨be, oe, none⟩) es) := Lib.hid (E0Y2.out.below hBz)
          have OX0 : Hid (World.ownsRow Y2.drew w.heap.size 44 5 v (openL es node amt k).length (sflat (openL es node amt k))) := Lib.hid (ownsRow_keep OY2.out hBz)
          have VX0 : Hid (Blk Y2.drew gv 52 [.int .i64 p, .int .i64 q, .int .u64 c, .int .u64 d, .int .u64 f, .int .u64 g, .int .u64 h, .int .u64 i]) := Lib.hid (VY2.out.below hBz VY2.out.lt)
          clear hBz
          refine wp_region_held_drew (S := fun w' => Blk w' gv 52 [.int .i64 p, .int .i64 q, .int .u64 c, .int .u64 d, .int .u64 f, .int .u64 g, .int .u64 h, .int .u64 i]) (by kernel_rfl) (VX0.out) (fun hHeld => ?_)
          generalize Y2.drew = X0 at hHeld BX0 E0X0 OX0 VX0 ⊢
          refine wpAnyH_take (i := 0) (v := v) rfl (by kernel_rfl) (by kernel_rfl) (by kernel_rfl) (fun _ _ _ h => h) (Or.inl ⟨by rfl, fun w _ => by rfl⟩) hHeld ?_
          show wpAnyH _ _ _ _ _ _ _ (Act.put _ (some 35) _) _
          simp only [Act.put, List.setIfInBounds_toArray, List.set_cons_zero, List.set_cons_succ]
          refine wpAnyH_take (i := 1) (v := .int .i64 (k : Int)) rfl (by kernel_rfl) (by kernel_rfl) (by kernel_rfl) (fun _ _ _ h => h) (Or.inl ⟨by rfl, fun w _ => by rfl⟩) hHeld ?_
          show wpAnyH _ _ _ _ _ _ _ (Act.put _ (some 36) _) _
          simp only [Act.put, List.setIfInBounds_toArray, List.set_cons_zero, List.set_cons_succ]
          refine wpAnyH_take (i := 2) (v := .int .i64 1) rfl (by kernel_rfl) (by kernel_rfl) (by kernel_rfl) (fun _ _ _ h => h) (Or.inl ⟨by rfl, fun w _ => by rfl⟩) hHeld ?_
          show wpAnyH _ _ _ _ _ _ _ (Act.put _ (some 37) _) _
          simp only [Act.put, List.setIfInBounds_toArray, List.set_cons_zero, List.set_cons_succ]
          refine wpAnyH_take (i := 3) (v := .int .i64 0) rfl (by kernel_rfl) (by kernel_rfl) (by kernel_rfl) (fun _ _ _ h => h) (Or.inl ⟨by rfl, by intro w' h; go_simp; (first | rfl | decide)⟩) hHeld ?_
          show wpAnyH _ _ _ _ _ _ _ (Act.put _ (some 38) _) _
          simp only [Act.put, List.setIfInBounds_toArray, List.set_cons_zero, List.set_cons_succ]
          refine wpAnyH_take (i := 4) (v := .pointer (some ⟨gv, 0, none⟩)) rfl (by kernel_rfl) (by kernel_rfl) (by kernel_rfl) (fun _ _ _ h => h) (Or.inl ⟨by rfl, by intro w' h; go_simp⟩) hHeld ?_
          show wpAnyH _ _ _ _ _ _ _ (Act.put _ (some 39) _) _
          simp only [Act.put, List.setIfInBounds_toArray, List.set_cons_zero, List.set_cons_succ]
          refine wpAnyH_take (i := 5) (v := .pointer (some ⟨gv, 0, none⟩)) rfl (by kernel_rfl) (by kernel_rfl) (by kernel_rfl) (fun _ _ _ h => h) (Or.inl ⟨by rfl, by intro w' h; go_simp⟩) hHeld ?_
          show wpAnyH _ _ _ _ _ _ _ (Act.put _ (some 40) _) _
          simp only [Act.put, List.setIfInBounds_toArray, List.set_cons_zero, List.set_cons_succ]
          refine wpAnyH_take (i := 6) (v := .int .i64 p) rfl (by kernel_rfl) (by kernel_rfl) (by kernel_rfl) (fun _ _ _ h => h) (Or.inl ⟨by rfl, by intro w' h; have k0 := Blk.cell h 0; simp only [List.getElem?_cons_zero] at k0; go_simp⟩) hHeld ?_
          show wpAnyH _ _ _ _ _ _ _ (Act.put _ (some 41) _) _
          simp only [Act.put, List.setIfInBounds_toArray, List.set_cons_zero, List.set_cons_succ]
          refine wpAnyH_take (i := 7) (v := .int .i64 1) rfl (by kernel_rfl) (by kernel_rfl) (by kernel_rfl) (fun _ _ _ h => h) (Or.inl ⟨by rfl, fun w _ => by rfl⟩) hHeld ?_
          show wpAnyH _ _ _ _ _ _ _ (Act.put _ (some 42) _) _
          simp only [Act.put, List.setIfInBounds_toArray, List.set_cons_zero, List.set_cons_succ]
          refine wpAnyH_take (i := 8) (v := .pointer (some ⟨gv, 2, none⟩)) rfl (by kernel_rfl) (by kernel_rfl) (by kernel_rfl) (fun _ _ _ h => h) (Or.inl ⟨by rfl, by intro w' h; go_simp⟩) hHeld ?_
          show wpAnyH _ _ _ _ _ _ _ (Act.put _ (some 43) _) _
          simp only [Act.put, List.setIfInBounds_toArray, List.set_cons_zero, List.set_cons_succ]
          refine wpAnyH_take (i := 9) (v := .pointer (some ⟨gv, 3, none⟩)) rfl (by kernel_rfl) (by kernel_rfl) (by kernel_rfl) (fun _ _ _ h => h) (Or.inl ⟨by rfl, by intro w' h; go_simp⟩) hHeld ?_
          show wpAnyH _ _ _ _ _ _ _ (Act.put _ (some 44) _) _
          simp only [Act.put, List.setIfInBounds_toArray, List.set_cons_zero, List.set_cons_succ]
          refine wpAnyH_take (i := 10) (v := .int .u64 d) rfl (by kernel_rfl) (by kernel_rfl) (by kernel_rfl) (fun _ _ _ h => h) (Or.inl ⟨by rfl, by intro w' h; have k3 := Blk.cell h 3; simp only [List.getElem?_cons_zero, List.getElem?_cons_succ] at k3; go_simp⟩) hHeld ?_
          show wpAnyH _ _ _ _ _ _ _ (Act.put _ (some 45) _) _
          simp only [Act.put, List.setIfInBounds_toArray, List.set_cons_zero, List.set_cons_succ]
          refine wpAnyH_take (i := 11) (v := .int .i64 1) rfl (by kernel_rfl) (by kernel_rfl) (by kernel_rfl) (fun _ _ _ h => h) (Or.inl ⟨by rfl, fun w _ => by rfl⟩) hHeld ?_
          show wpAnyH _ _ _ _ _ _ _ (Act.put _ (some 46) _) _
          simp only [Act.put, List.setIfInBounds_toArray, List.set_cons_zero, List.set_cons_succ]
          refine wpAnyH_take (i := 12) (v := .pointer (some ⟨gv, 4, none⟩)) rfl (by kernel_rfl) (by kernel_rfl) (by kernel_rfl) (fun _ _ _ h => h) (Or.inl ⟨by rfl, by intro w' h; go_simp⟩) hHeld ?_
          show wpAnyH _ _ _ _ _ _ _ (Act.put _ (some 47) _) _
          simp only [Act.put, List.setIfInBounds_toArray, List.set_cons_zero, List.set_cons_succ]
          refine wpAnyH_take (i := 13) (v := .pointer (some ⟨gv, 6, none⟩)) rfl (by kernel_rfl) (by kernel_rfl) (by kernel_rfl) (fun _ _ _ h => h) (Or.inl ⟨by rfl, by intro w' h; go_simp⟩) hHeld ?_
          show wpAnyH _ _ _ _ _ _ _ (Act.put _ (some 48) _) _
          simp only [Act.put, List.setIfInBounds_toArray, List.set_cons_zero, List.set_cons_succ]
          refine wpAnyH_take (i := 14) (v := .agg #[.int .u64 h, .int .u64 i]) rfl (by kernel_rfl) (by kernel_rfl) (by kernel_rfl) (fun _ _ _ h => h) (Or.inl ⟨by rfl, by intro w' h; have k0 := Blk.cell h 6; have k1 := Blk.cell h 7; simp only [List.getElem?_cons_zero, List.getElem?_cons_succ] at k0 k1; go_simp⟩) hHeld ?_
          show wpAnyH _ _ _ _ _ _ _ (Act.put _ (some 49) _) _
          simp only [Act.put, List.setIfInBounds_toArray, List.set_cons_zero, List.set_cons_succ]
          refine wpAnyH_take (i := 15) (v := .agg #[.int .i64 (k : Int), .int .i64 p, .int .u64 d, .int .u64 h, .int .u64 i]) rfl (by kernel_rfl) (by kernel_rfl) (by kernel_rfl) (fun _ _ _ h => h) (Or.inl ⟨by rfl, by intro w' h; kernel_rfl⟩) hHeld ?_
          show wpAnyH _ _ _ _ _ _ _ (Act.put _ (some 50) _) _
          simp only [Act.put, List.setIfInBounds_toArray, List.set_cons_zero, List.set_cons_succ]
          refine wpAnyH_ready (rs := [16]) (by kernel_rfl) (by simp) ?_
          refine AllReadyH.cons rfl (fun K hK => ?_) AllReadyH.nil
          refine step_lay33 rfl 50 rfl k p d h i rfl ?_
          intro X1 gn hB hN hg
          have BX1 : Hid (Below w.heap.size w X1) := Lib.hid (BX0.out.trans (hB.mono BX0.out.size))
          have E0X1 : Hid (EdgeRow X1 (some ⟨be, oe, none⟩) es) := Lib.hid (E0X0.out.below hB)
          have OX1 : Hid (World.ownsRow X1 w.heap.size 44 5 v (openL es node amt k).length (sflat (openL es node amt k))) := Lib.hid (ownsRow_keep OX0.out hB)
          have VX1 : Hid (Blk X1 gv 52 [.int .i64 p, .int .i64 q, .int .u64 c, .int .u64 d, .int .u64 f, .int .u64 g, .int .u64 h, .int .u64 i]) := Lib.hid (VX0.out.below hB VX0.out.lt)
          have NX1 : Hid (Blk X1 gn 44 (scells ⟨k, p, d, h, i⟩)) := Lib.hid (hN)
          clear BX0 E0X0 OX0 VX0 hB hN hg
          refine hK.out _ _ (VX1.out) (fun hHeld => ?_)
          clear hK K
          show wpAnyH _ _ _ _ _ _ _ (Act.put _ (some 51) _) _
          simp only [Act.put, List.setIfInBounds_toArray, List.set_cons_zero, List.set_cons_succ]
          refine wpAnyH_ready (rs := [17]) (by kernel_rfl) (by simp) ?_
          refine AllReadyH.cons rfl (fun K hK => ?_) AllReadyH.nil
          refine step_more rfl 33 44 (.inl ⟨rfl, rfl⟩) (.tmp 35) (.tmp 51) rfl w.heap.size v _ rfl OX1.out gn _ rfl NX1.out (by omega) BX1.out.size ?_
          intro v2 X2 hOwn2 hO
          have hOwn := OX1.out
          have hVO := own_ne VX1.out OX1.out (by decide)
          have BX2 : Hid (Below w.heap.size w X2) := Lib.hid (below_own BX1.out hO hOwn (Nat.le_refl _) BX1.out.size)
          have VX2 : Hid (Blk X2 gv 52 [.int .i64 p, .int .i64 q, .int .u64 c, .int .u64 d, .int .u64 f, .int .u64 g, .int .u64 h, .int .u64 i]) := Lib.hid (VX1.out.grown hO hVO)
          have O2X2 : Hid (World.ownsRow X2 w.heap.size 44 5 v2 (openL es node amt k ++ [Stp.mk (k : Int) p d h i]).length (sflat (openL es node amt k ++ [Stp.mk (k : Int) p d h i]))) := Lib.hid (hOwn2)
          have E0X2 : Hid (EdgeRow X2 (some ⟨be, oe, none⟩) es) := Lib.hid (HE0.out.below BX2.out)
          clear BX1 VX1 hOwn hOwn2 hO
          refine hK.out _ _ (VX2.out) (fun hHeld => ?_)
          clear hK K
          show wpAnyH _ _ _ _ _ _ _ (Act.put _ (some 52) _) _
          simp only [Act.put, List.setIfInBounds_toArray, List.set_cons_zero, List.set_cons_succ]
          refine wpAnyH_take (i := 18) (v := v2) rfl (by kernel_rfl) (by kernel_rfl) (by kernel_rfl) (fun _ _ _ h => h) (Or.inl ⟨by rfl, fun w _ => by rfl⟩) hHeld ?_
          show wpAnyH _ _ _ _ _ _ _ (Act.put _ (some 7) _) _
          simp only [Act.put, List.setIfInBounds_toArray, List.set_cons_zero, List.set_cons_succ]
          refine wpAnyH_done (by kernel_rfl) ?_ _
          clear hHeld
          have HN : Hid (X2.ownsRow w.heap.size 44 5 v2 (openL es node amt (k + 1)).length (sflat (openL es node amt (k + 1)))) := Lib.hid (by rw [HSU.out, HS.out]; exact O2X2.out)
          go_wp2
          go_roundw
          case rel => exact ⟨k + 1, v2, by omega, by go_num, rfl, HN, E0X2, BX2⟩
          case measure => simp [intOf] <;> omega
        · have dle : decide (amt ≤ d) = false := decide_eq_false hle
          have HS : Hid (stepsAt ⟨p, q, c, d, f, g, h, i⟩ k node amt = []) := Lib.hid (by unfold stepsAt; rw [hsd]; simp [hle])
          rw [hsd]
          clear hsd
          have cV0 := Blk.cell VY2.out 0
          have cV1 := Blk.cell VY2.out 1
          have cV2 := Blk.cell VY2.out 2
          have cV3 := Blk.cell VY2.out 3
          simp only [List.getElem?_cons_zero, List.getElem?_cons_succ] at cV0 cV1 cV2 cV3
          have HN : Hid (Y2.ownsRow w.heap.size 44 5 v (openL es node amt (k + 1)).length (sflat (openL es node amt (k + 1)))) := Lib.hid (by rw [HSU.out, HS.out, List.append_nil]; exact OY2.out)
          go_wp2
          clear cV0 cV1 cV2 cV3
          go_roundw
          case rel => exact ⟨k + 1, v, by omega, by go_num, rfl, HN, E0Y2, BY2⟩
          case measure => simp [intOf] <;> omega
    · obtain rfl : k = el := by omega
      go_wp2
      go_ret
      exact ⟨v, rfl, by rw [HEL.out]; exact O.out, B.out⟩

theorem open_any (sa : Option Addr) (sl sc : Nat) (ea : Option Addr) (el ec : Nat) (es : List Ed) (node amt : Int) (w : World) (hE : EdgeRow w ea es) (hel : es.length = el) (hel2 : el ≤ 90) (hsl2 : sl ≤ 1000) :
    Calls Try.prog 46 #[.agg #[.slice sa sl sc, .slice ea el ec], .int .i64 node, .int .u64 amt] w (StepsPost 44 w (stepsL sl es node amt)) := by
  unfold stepsL
  by_cases hc : checkE sl es = 0
  · rw [if_pos hc]; exact open_good sa sl sc ea el ec es node amt w hE hel hel2 hsl2 hc
  · rw [if_neg hc]; exact open_bad sa sl sc ea el ec es node amt w hE hel (by omega) hsl2 hc

set_option maxRecDepth 100000 in
theorem steps_any (sa : Option Addr) (sl sc : Nat) (ea : Option Addr) (el ec : Nat) (es : List Ed) (node : Int) (w : World) (hE : EdgeRow w ea es) (hel : es.length = el) (hel2 : el ≤ 90) (hsl2 : sl ≤ 1000) :
    Calls Try.prog 16 #[.agg #[.slice sa sl sc, .slice ea el ec], .int .i64 node] w (StepsPost 44 w (stepsL sl es node 0)) := by
  have E0w := Lib.hid hE
  have HEL := Lib.hid hel
  have Bw : Hid (Below w.heap.size w w) := Lib.hid (Below.refl _ _)
  clear hE hel
  go_enter Try.func16, Try.ntmps16
  have hB : Below w.heap.size w (w.alloc (.cells #[.slice sa sl sc, .slice ea el ec] 31)) := (Below.refl _ _).alloc (Nat.le_refl _) _
  have BY1 : Hid (Below w.heap.size w (w.alloc (.cells #[.slice sa sl sc, .slice ea el ec] 31))) := Lib.hid (Bw.out.trans (hB.mono Bw.out.size))
  have E0Y1 : Hid (EdgeRow (w.alloc (.cells #[.slice sa sl sc, .slice ea el ec] 31)) ea es) := Lib.hid (E0w.out.below hB)
  have PY1 : Hid (Blk (w.alloc (.cells #[.slice sa sl sc, .slice ea el ec] 31)) w.heap.size 31 [.slice sa sl sc, .slice ea el ec]) := Lib.hid (Blk.new _ _ [.slice sa sl sc, .slice ea el ec])
  clear hB Bw E0w
  go_wp2_with fail
  generalize (w.alloc (.cells #[.slice sa sl sc, .slice ea el ec] 31)) = Y1 at BY1 E0Y1 PY1 ⊢
  generalize w.heap.size = gp at PY1 ⊢
  have hsz := BY1.out.size
  refine (open_any sa sl sc ea el ec es node 0 Y1 E0Y1.out HEL.out hel2 hsl2).mono ?_
  rintro e Y2 ⟨v, rfl, hO, hB⟩
  have HO := Lib.hid hO
  clear hO
  have BY2 : Hid (Below w.heap.size w Y2) := Lib.hid (BY1.out.trans (hB.mono BY1.out.size))
  have E0Y2 : Hid (EdgeRow Y2 ea es) := Lib.hid (E0Y1.out.below hB)
  have PY2 : Hid (Blk Y2 gp 31 [.slice sa sl sc, .slice ea el ec]) := Lib.hid (PY1.out.below hB PY1.out.lt)
  clear BY1 E0Y1 PY1
  clear hB
  go_wp2
  go_ret
  exact ⟨v, rfl, own_lower HO.out hsz, BY2.out⟩
end Go.Proofs.Ytnnimjaigciedaa
