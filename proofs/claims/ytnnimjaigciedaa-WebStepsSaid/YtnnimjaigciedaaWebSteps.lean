/-
  tollhouselaw07.WebSteps returns true for every input: whether any web may be, at which end a node is, and all ways out of it, are the document's; nothing that was there is written.
-/
import Derived.Test.YtnnimjaigciedaaWebSw
namespace Go.Proofs.Ytnnimjaigciedaa.webSteps
open Go.ChangeShapes Go.WideShapes Go.ChangeAt Go.RowKit
set_option linter.unusedVariables false

def Ok (w : World) (e : Ending) (w' : World) : Prop := e = .returned (.bool true) ∧ Below w.heap.size w w'

set_option maxRecDepth 100000 in
set_option maxHeartbeats 4000000 in
theorem way_dark (sa : Option Addr) (sl sc : Nat) (ea : Option Addr) (el ec : Nat) (node : Int) (w : World) (hl : lightB sl el = false) :
    Calls Try.prog 3 #[.agg #[.slice sa sl sc, .slice ea el ec], .int .i64 node] w (Ok w) := by
  have HL := Lib.hid (fun w => light_any sa sl sc ea el ec w)
  rw [hl] at HL
  have BX : Hid (Below w.heap.size w w) := Lib.hid (Below.refl _ _)
  clear hl
  go_enter Try.func3, Try.ntmps3
  have B0 : Hid (Below w.heap.size w (w.alloc (.cells #[.slice sa sl sc, .slice ea el ec] 25))) := Lib.hid ((Below.refl _ _).alloc (Nat.le_refl _) _)
  clear BX
  go_wp2_with fail
  refine (HL.out _).mono ?_
  rintro e Y ⟨rfl, hB⟩
  have B1 := Lib.hid (B0.out.trans (hB.mono B0.out.size))
  clear hB B0
  go_wp2_with fail
  refine (wawake_any _).mono ?_
  rintro e Y2 ⟨rfl, hB⟩
  have B2 := Lib.hid (B1.out.trans (hB.mono B1.out.size))
  clear hB B1
  go_wp2
  go_ret
  exact ⟨rfl, B2.out⟩

set_option maxRecDepth 100000 in
set_option maxHeartbeats 8000000 in
theorem way_light (sa0 : Option Addr) (sl sc0 : Nat) (ea0 : Option Addr) (el ec0 : Nat) (sp : List (Int × Int)) (es : List Ed) (node : Int) (w : World) (hl : lightB sl el = true) (hsl : sp.length = sl) (hel : es.length = el) (hS : SpotRow w sa0 sp) (hE : EdgeRow w ea0 es) (hok : ∀ e ∈ es, EdOk e) :
    Calls Try.prog 3 #[.agg #[.slice sa0 sl sc0, .slice ea0 el ec0], .int .i64 node] w (Ok w) := by
  have HL := Lib.hid (fun w => light_any sa0 sl sc0 ea0 el ec0 w)
  rw [hl] at HL
  have hlt : sl ≤ 20 ∧ el ≤ 30 := by unfold lightB at hl; exact of_decide_eq_true hl
  obtain ⟨hs20, he30⟩ := hlt
  have HSL := Lib.hid hsl
  have HEL := Lib.hid hel
  have HOK := Lib.hid hok
  have Bw : Hid (Below w.heap.size w w) := Lib.hid (Below.refl _ _)
  have S0w := Lib.hid hS
  have E0w := Lib.hid hE
  clear hl hsl hel hok hS hE
  go_enter Try.func3, Try.ntmps3
  have hB : Below w.heap.size w (w.alloc (.cells #[.slice sa0 sl sc0, .slice ea0 el ec0] 25)) := (Below.refl _ _).alloc (Nat.le_refl _) _
  have BY1 : Hid (Below w.heap.size w (w.alloc (.cells #[.slice sa0 sl sc0, .slice ea0 el ec0] 25))) := Lib.hid (Bw.out.trans (hB.mono Bw.out.size))
  have S0Y1 : Hid (SpotRow (w.alloc (.cells #[.slice sa0 sl sc0, .slice ea0 el ec0] 25)) sa0 sp) := Lib.hid (S0w.out.below hB)
  have E0Y1 : Hid (EdgeRow (w.alloc (.cells #[.slice sa0 sl sc0, .slice ea0 el ec0] 25)) ea0 es) := Lib.hid (E0w.out.below hB)
  have PY1 : Hid (Blk (w.alloc (.cells #[.slice sa0 sl sc0, .slice ea0 el ec0] 25)) w.heap.size 25 [.slice sa0 sl sc0, .slice ea0 el ec0]) := Lib.hid (Blk.new _ _ [.slice sa0 sl sc0, .slice ea0 el ec0])
  clear hB Bw S0w E0w
  go_wp2_with fail
  generalize (w.alloc (.cells #[.slice sa0 sl sc0, .slice ea0 el ec0] 25)) = Y1 at BY1 S0Y1 E0Y1 PY1 ⊢
  generalize w.heap.size = gp at PY1 ⊢
  refine (HL.out Y1).mono ?_
  rintro e Y2 ⟨rfl, hB⟩
  have BY2 : Hid (Below w.heap.size w Y2) := Lib.hid (BY1.out.trans (hB.mono BY1.out.size))
  have S0Y2 : Hid (SpotRow Y2 sa0 sp) := Lib.hid (S0Y1.out.below hB)
  have E0Y2 : Hid (EdgeRow Y2 ea0 es) := Lib.hid (E0Y1.out.below hB)
  have PY2 : Hid (Blk Y2 gp 25 [.slice sa0 sl sc0, .slice ea0 el ec0]) := Lib.hid (PY1.out.below hB PY1.out.lt)
  clear BY1 S0Y1 E0Y1 PY1
  clear hB
  have cP0 := Blk.cell PY2.out 0
  have cP1 := Blk.cell PY2.out 1
  simp only [List.getElem?_cons_zero, List.getElem?_cons_succ] at cP0 cP1
  go_wp2_with fail
  clear cP0 cP1
  refine (wto_any sa0 sl sc0 ea0 el ec0 sp es Y2 S0Y2.out E0Y2.out HSL.out HEL.out hs20 he30).mono ?_
  rintro e Y3 ⟨sa1, sc1, ea1, ec1, rfl, hS, hE, hn1, hn2, hB⟩
  have BY3 : Hid (Below w.heap.size w Y3) := Lib.hid (BY2.out.trans (hB.mono BY2.out.size))
  have S0Y3 : Hid (SpotRow Y3 sa0 sp) := Lib.hid (S0Y2.out.below hB)
  have E0Y3 : Hid (EdgeRow Y3 ea0 es) := Lib.hid (E0Y2.out.below hB)
  have PY3 : Hid (Blk Y3 gp 25 [.slice sa0 sl sc0, .slice ea0 el ec0]) := Lib.hid (PY2.out.below hB PY2.out.lt)
  clear BY2 S0Y2 E0Y2 PY2
  clear hB
  have S1Y3 : Hid (SpotRow Y3 sa1 sp) := Lib.hid (hS)
  have E1Y3 : Hid (EdgeRow Y3 ea1 es) := Lib.hid (hE)
  have HN1 := Lib.hid hn1
  have HN2 := Lib.hid hn2
  clear hS hE hn1 hn2
  have hB : Below Y3.heap.size Y3 (Y3.alloc (.cells #[.slice sa1 sl sc1, .slice ea1 el ec1] 31)) := (Below.refl _ _).alloc (Nat.le_refl _) _
  have BY4 : Hid (Below w.heap.size w (Y3.alloc (.cells #[.slice sa1 sl sc1, .slice ea1 el ec1] 31))) := Lib.hid (BY3.out.trans (hB.mono BY3.out.size))
  have S0Y4 : Hid (SpotRow (Y3.alloc (.cells #[.slice sa1 sl sc1, .slice ea1 el ec1] 31)) sa0 sp) := Lib.hid (S0Y3.out.below hB)
  have E0Y4 : Hid (EdgeRow (Y3.alloc (.cells #[.slice sa1 sl sc1, .slice ea1 el ec1] 31)) ea0 es) := Lib.hid (E0Y3.out.below hB)
  have PY4 : Hid (Blk (Y3.alloc (.cells #[.slice sa1 sl sc1, .slice ea1 el ec1] 31)) gp 25 [.slice sa0 sl sc0, .slice ea0 el ec0]) := Lib.hid (PY3.out.below hB PY3.out.lt)
  have S1Y4 : Hid (SpotRow (Y3.alloc (.cells #[.slice sa1 sl sc1, .slice ea1 el ec1] 31)) sa1 sp) := Lib.hid (S1Y3.out.below hB)
  have E1Y4 : Hid (EdgeRow (Y3.alloc (.cells #[.slice sa1 sl sc1, .slice ea1 el ec1] 31)) ea1 es) := Lib.hid (E1Y3.out.below hB)
  have QY4 : Hid (Blk (Y3.alloc (.cells #[.slice sa1 sl sc1, .slice ea1 el ec1] 31)) Y3.heap.size 31 [.slice sa1 sl sc1, .slice ea1 el ec1]) := Lib.hid (Blk.new _ _ [.slice sa1 sl sc1, .slice ea1 el ec1])
  clear hB BY3 S0Y3 E0Y3 PY3 S1Y3 E1Y3
  go_wp2_with fail
  generalize (Y3.alloc (.cells #[.slice sa1 sl sc1, .slice ea1 el ec1] 31)) = Y4 at BY4 S0Y4 E0Y4 PY4 S1Y4 E1Y4 QY4 ⊢
  generalize Y3.heap.size = gq at QY4 ⊢
  have hBz : Below Y4.heap.size Y4 Y4.drew := below_drewN (Below.refl _ _) 1
  have BX0 : Hid (Below w.heap.size w Y4.drew) := Lib.hid (BY4.out.trans (hBz.mono BY4.out.size))
  have S0X0 : Hid (SpotRow Y4.drew sa0 sp) := Lib.hid (S0Y4.out.below hBz)
  have E0X0 : Hid (EdgeRow Y4.drew ea0 es) := Lib.hid (E0Y4.out.below hBz)
  have PX0 : Hid (Blk Y4.drew gp 25 [.slice sa0 sl sc0, .slice ea0 el ec0]) := Lib.hid (PY4.out.below hBz PY4.out.lt)
  have S1X0 : Hid (SpotRow Y4.drew sa1 sp) := Lib.hid (S1Y4.out.below hBz)
  have E1X0 : Hid (EdgeRow Y4.drew ea1 es) := Lib.hid (E1Y4.out.below hBz)
  have QX0 : Hid (Blk Y4.drew gq 31 [.slice sa1 sl sc1, .slice ea1 el ec1]) := Lib.hid (QY4.out.below hBz QY4.out.lt)
  clear hBz
  refine wp_region_held_drew (S := fun w' => Blk w' gq 31 [.slice sa1 sl sc1, .slice ea1 el ec1] ∧ Blk w' gp 25 [.slice sa0 sl sc0, .slice ea0 el ec0]) (by kernel_rfl) (⟨QX0.out, PX0.out⟩) (fun hHeld => ?_)
  generalize Y4.drew = X0 at hHeld BX0 S0X0 E0X0 PX0 S1X0 E1X0 QX0 ⊢
  refine wpAnyH_take (i := 0) (v := .agg #[.slice sa1 sl sc1, .slice ea1 el ec1]) rfl (by kernel_rfl) (by kernel_rfl) (by kernel_rfl) (fun _ _ _ h => h) (Or.inl ⟨by rfl, by intro w' h; have k0 := Blk.cell h.1 0; have k1 := Blk.cell h.1 1; simp only [List.getElem?_cons_zero, List.getElem?_cons_succ] at k0 k1; go_simp⟩) hHeld ?_
  show wpAnyH _ _ _ _ _ _ _ (Act.put _ (some 16) _) _
  simp only [Act.put, List.setIfInBounds_toArray, List.set_cons_zero, List.set_cons_succ]
  refine wpAnyH_take (i := 1) (v := .int .i64 node) rfl (by kernel_rfl) (by kernel_rfl) (by kernel_rfl) (fun _ _ _ h => h) (Or.inl ⟨by rfl, fun w _ => by rfl⟩) hHeld ?_
  show wpAnyH _ _ _ _ _ _ _ (Act.put _ (some 17) _) _
  simp only [Act.put, List.setIfInBounds_toArray, List.set_cons_zero, List.set_cons_succ]
  refine wpAnyH_take (i := 3) (v := .agg #[.slice sa0 sl sc0, .slice ea0 el ec0]) rfl (by kernel_rfl) (by kernel_rfl) (by kernel_rfl) (fun _ _ _ h => h) (Or.inl ⟨by rfl, by intro w' h; have k0 := Blk.cell h.2 0; have k1 := Blk.cell h.2 1; simp only [List.getElem?_cons_zero, List.getElem?_cons_succ] at k0 k1; go_simp⟩) hHeld ?_
  show wpAnyH _ _ _ _ _ _ _ (Act.put _ (some 19) _) _
  simp only [Act.put, List.setIfInBounds_toArray, List.set_cons_zero, List.set_cons_succ]
  refine wpAnyH_take (i := 4) (v := .int .i64 node) rfl (by kernel_rfl) (by kernel_rfl) (by kernel_rfl) (fun _ _ _ h => h) (Or.inl ⟨by rfl, fun w _ => by rfl⟩) hHeld ?_
  show wpAnyH _ _ _ _ _ _ _ (Act.put _ (some 20) _) _
  simp only [Act.put, List.setIfInBounds_toArray, List.set_cons_zero, List.set_cons_succ]
  refine wpAnyH_ready (rs := [2]) (by kernel_rfl) (by simp) ?_
  refine AllReadyH.cons rfl (fun K hK => ?_) AllReadyH.nil
  refine step_call rfl 16 #[.tmp 16, .tmp 17] #[31, 3] rfl #[.agg #[.slice sa1 sl sc1, .slice ea1 el ec1], .int .i64 node] (by simp [Act.eval]) (by go_simp) (StepsPost.rows (steps_any sa1 sl sc1 ea1 el ec1 es node X0 E1X0.out HEL.out (by omega) (by omega))) ?_
  rintro e X1 ⟨la, lc, rfl, hL, hlc, hB⟩
  have BX1 : Hid (Below w.heap.size w X1) := Lib.hid (BX0.out.trans (hB.mono BX0.out.size))
  have S0X1 : Hid (SpotRow X1 sa0 sp) := Lib.hid (S0X0.out.below hB)
  have E0X1 : Hid (EdgeRow X1 ea0 es) := Lib.hid (E0X0.out.below hB)
  have PX1 : Hid (Blk X1 gp 25 [.slice sa0 sl sc0, .slice ea0 el ec0]) := Lib.hid (PX0.out.below hB PX0.out.lt)
  have S1X1 : Hid (SpotRow X1 sa1 sp) := Lib.hid (S1X0.out.below hB)
  have E1X1 : Hid (EdgeRow X1 ea1 es) := Lib.hid (E1X0.out.below hB)
  have QX1 : Hid (Blk X1 gq 31 [.slice sa1 sl sc1, .slice ea1 el ec1]) := Lib.hid (QX0.out.below hB QX0.out.lt)
  have LX1 : Hid (StpRow X1 la (stepsL sl es node 0)) := Lib.hid (hL)
  clear BX0 S0X0 E0X0 PX0 S1X0 E1X0 QX0 hB hL
  refine ⟨_, rfl, hK.out _ _ (⟨QX1.out, PX1.out⟩) (fun hHeld => ?_)⟩
  clear hK K
  show wpAnyH _ _ _ _ _ _ _ (Act.put _ (some 18) _) _
  simp only [Act.put, List.setIfInBounds_toArray, List.set_cons_zero, List.set_cons_succ]
  refine wpAnyH_ready (rs := [5]) (by kernel_rfl) (by simp) ?_
  refine AllReadyH.cons rfl (fun K hK => ?_) AllReadyH.nil
  refine step_call rfl 17 #[.tmp 19, .tmp 20] #[25, 3] rfl #[.agg #[.slice sa0 sl sc0, .slice ea0 el ec0], .int .i64 node] (by simp [Act.eval]) (by go_simp) (StepsPost.rows (rsteps_any sa0 sl sc0 ea0 el ec0 es node X1 E0X1.out HEL.out (by omega) (by omega) HOK.out)) ?_
  rintro e X2 ⟨ma, mc, rfl, hL, hmc, hB⟩
  have BX2 : Hid (Below w.heap.size w X2) := Lib.hid (BX1.out.trans (hB.mono BX1.out.size))
  have S0X2 : Hid (SpotRow X2 sa0 sp) := Lib.hid (S0X1.out.below hB)
  have E0X2 : Hid (EdgeRow X2 ea0 es) := Lib.hid (E0X1.out.below hB)
  have PX2 : Hid (Blk X2 gp 25 [.slice sa0 sl sc0, .slice ea0 el ec0]) := Lib.hid (PX1.out.below hB PX1.out.lt)
  have S1X2 : Hid (SpotRow X2 sa1 sp) := Lib.hid (S1X1.out.below hB)
  have E1X2 : Hid (EdgeRow X2 ea1 es) := Lib.hid (E1X1.out.below hB)
  have QX2 : Hid (Blk X2 gq 31 [.slice sa1 sl sc1, .slice ea1 el ec1]) := Lib.hid (QX1.out.below hB QX1.out.lt)
  have LX2 : Hid (StpRow X2 la (stepsL sl es node 0)) := Lib.hid (LX1.out.below hB)
  have MX2 : Hid (StpRow X2 ma (stepsL sl es node 0)) := Lib.hid (hL)
  clear BX1 S0X1 E0X1 PX1 S1X1 E1X1 QX1 LX1 hB hL
  refine ⟨_, rfl, hK.out _ _ (⟨QX2.out, PX2.out⟩) (fun hHeld => ?_)⟩
  clear hK K
  show wpAnyH _ _ _ _ _ _ _ (Act.put _ (some 21) _) _
  simp only [Act.put, List.setIfInBounds_toArray, List.set_cons_zero, List.set_cons_succ]
  refine wpAnyH_take (i := 6) (v := .slice la (stepsL sl es node 0).length lc) rfl (by kernel_rfl) (by kernel_rfl) (by kernel_rfl) (fun _ _ _ h => h) (Or.inl ⟨by rfl, fun w _ => by rfl⟩) hHeld ?_
  show wpAnyH _ _ _ _ _ _ _ (Act.put _ (some 6) _) _
  simp only [Act.put, List.setIfInBounds_toArray, List.set_cons_zero, List.set_cons_succ]
  refine wpAnyH_take (i := 7) (v := .slice ma (stepsL sl es node 0).length mc) rfl (by kernel_rfl) (by kernel_rfl) (by kernel_rfl) (fun _ _ _ h => h) (Or.inl ⟨by rfl, fun w _ => by rfl⟩) hHeld ?_
  show wpAnyH _ _ _ _ _ _ _ (Act.put _ (some 7) _) _
  simp only [Act.put, List.setIfInBounds_toArray, List.set_cons_zero, List.set_cons_succ]
  refine wpAnyH_done (by kernel_rfl) ?_ _
  go_wp2_with fail
  clear hHeld
  have hBz : Below X2.heap.size X2 X2.drew := below_drewN (Below.refl _ _) 1
  have BX10 : Hid (Below w.heap.size w X2.drew) := Lib.hid (BX2.out.trans (hBz.mono BX2.out.size))
  have S0X10 : Hid (SpotRow X2.drew sa0 sp) := Lib.hid (S0X2.out.below hBz)
  have E0X10 : Hid (EdgeRow X2.drew ea0 es) := Lib.hid (E0X2.out.below hBz)
  have PX10 : Hid (Blk X2.drew gp 25 [.slice sa0 sl sc0, .slice ea0 el ec0]) := Lib.hid (PX2.out.below hBz PX2.out.lt)
  have S1X10 : Hid (SpotRow X2.drew sa1 sp) := Lib.hid (S1X2.out.below hBz)
  have E1X10 : Hid (EdgeRow X2.drew ea1 es) := Lib.hid (E1X2.out.below hBz)
  have QX10 : Hid (Blk X2.drew gq 31 [.slice sa1 sl sc1, .slice ea1 el ec1]) := Lib.hid (QX2.out.below hBz QX2.out.lt)
  have LX10 : Hid (StpRow X2.drew la (stepsL sl es node 0)) := Lib.hid (LX2.out.below hBz)
  have MX10 : Hid (StpRow X2.drew ma (stepsL sl es node 0)) := Lib.hid (MX2.out.below hBz)
  clear hBz
  refine wp_region_held_drew (S := fun w' => Blk w' gq 31 [.slice sa1 sl sc1, .slice ea1 el ec1] ∧ Blk w' gp 25 [.slice sa0 sl sc0, .slice ea0 el ec0]) (by kernel_rfl) (⟨QX10.out, PX10.out⟩) (fun hHeld => ?_)
  generalize X2.drew = X10 at hHeld BX10 S0X10 E0X10 PX10 S1X10 E1X10 QX10 LX10 MX10 ⊢
  refine wpAnyH_take (i := 0) (v := .agg #[.slice sa1 sl sc1, .slice ea1 el ec1]) rfl (by kernel_rfl) (by kernel_rfl) (by kernel_rfl) (fun _ _ _ h => h) (Or.inl ⟨by rfl, by intro w' h; have k0 := Blk.cell h.1 0; have k1 := Blk.cell h.1 1; simp only [List.getElem?_cons_zero, List.getElem?_cons_succ] at k0 k1; go_simp⟩) hHeld ?_
  show wpAnyH _ _ _ _ _ _ _ (Act.put _ (some 22) _) _
  simp only [Act.put, List.setIfInBounds_toArray, List.set_cons_zero, List.set_cons_succ]
  refine wpAnyH_take (i := 2) (v := .agg #[.slice sa0 sl sc0, .slice ea0 el ec0]) rfl (by kernel_rfl) (by kernel_rfl) (by kernel_rfl) (fun _ _ _ h => h) (Or.inl ⟨by rfl, by intro w' h; have k0 := Blk.cell h.2 0; have k1 := Blk.cell h.2 1; simp only [List.getElem?_cons_zero, List.getElem?_cons_succ] at k0 k1; go_simp⟩) hHeld ?_
  show wpAnyH _ _ _ _ _ _ _ (Act.put _ (some 24) _) _
  simp only [Act.put, List.setIfInBounds_toArray, List.set_cons_zero, List.set_cons_succ]
  refine wpAnyH_ready (rs := [1]) (by kernel_rfl) (by simp) ?_
  refine AllReadyH.cons rfl (fun K hK => ?_) AllReadyH.nil
  refine step_call rfl 18 #[.tmp 22] #[31] rfl #[.agg #[.slice sa1 sl sc1, .slice ea1 el ec1]] (by simp [Act.eval]) (by go_simp) (check_any sa1 sl sc1 ea1 el ec1 es X10 E1X10.out HEL.out (by omega) (by omega)) ?_
  rintro e X1 ⟨rfl, hB⟩
  have BX1 : Hid (Below w.heap.size w X1) := Lib.hid (BX10.out.trans (hB.mono BX10.out.size))
  have S0X1 : Hid (SpotRow X1 sa0 sp) := Lib.hid (S0X10.out.below hB)
  have E0X1 : Hid (EdgeRow X1 ea0 es) := Lib.hid (E0X10.out.below hB)
  have PX1 : Hid (Blk X1 gp 25 [.slice sa0 sl sc0, .slice ea0 el ec0]) := Lib.hid (PX10.out.below hB PX10.out.lt)
  have S1X1 : Hid (SpotRow X1 sa1 sp) := Lib.hid (S1X10.out.below hB)
  have E1X1 : Hid (EdgeRow X1 ea1 es) := Lib.hid (E1X10.out.below hB)
  have QX1 : Hid (Blk X1 gq 31 [.slice sa1 sl sc1, .slice ea1 el ec1]) := Lib.hid (QX10.out.below hB QX10.out.lt)
  have LX1 : Hid (StpRow X1 la (stepsL sl es node 0)) := Lib.hid (LX10.out.below hB)
  have MX1 : Hid (StpRow X1 ma (stepsL sl es node 0)) := Lib.hid (MX10.out.below hB)
  clear BX10 S0X10 E0X10 PX10 S1X10 E1X10 QX10 LX10 MX10 hB
  refine ⟨_, rfl, hK.out _ _ (⟨QX1.out, PX1.out⟩) (fun hHeld => ?_)⟩
  clear hK K
  show wpAnyH _ _ _ _ _ _ _ (Act.put _ (some 23) _) _
  simp only [Act.put, List.setIfInBounds_toArray, List.set_cons_zero, List.set_cons_succ]
  refine wpAnyH_ready (rs := [3]) (by kernel_rfl) (by simp) ?_
  refine AllReadyH.cons rfl (fun K hK => ?_) AllReadyH.nil
  refine step_call rfl 19 #[.tmp 24] #[25] rfl #[.agg #[.slice sa0 sl sc0, .slice ea0 el ec0]] (by simp [Act.eval]) (by go_simp) (rcheck_any sa0 sl sc0 ea0 el ec0 es X1 E0X1.out HEL.out (by omega) (by omega)) ?_
  rintro e X2 ⟨rfl, hB⟩
  have BX2 : Hid (Below w.heap.size w X2) := Lib.hid (BX1.out.trans (hB.mono BX1.out.size))
  have S0X2 : Hid (SpotRow X2 sa0 sp) := Lib.hid (S0X1.out.below hB)
  have E0X2 : Hid (EdgeRow X2 ea0 es) := Lib.hid (E0X1.out.below hB)
  have PX2 : Hid (Blk X2 gp 25 [.slice sa0 sl sc0, .slice ea0 el ec0]) := Lib.hid (PX1.out.below hB PX1.out.lt)
  have S1X2 : Hid (SpotRow X2 sa1 sp) := Lib.hid (S1X1.out.below hB)
  have E1X2 : Hid (EdgeRow X2 ea1 es) := Lib.hid (E1X1.out.below hB)
  have QX2 : Hid (Blk X2 gq 31 [.slice sa1 sl sc1, .slice ea1 el ec1]) := Lib.hid (QX1.out.below hB QX1.out.lt)
  have LX2 : Hid (StpRow X2 la (stepsL sl es node 0)) := Lib.hid (LX1.out.below hB)
  have MX2 : Hid (StpRow X2 ma (stepsL sl es node 0)) := Lib.hid (MX1.out.below hB)
  clear BX1 S0X1 E0X1 PX1 S1X1 E1X1 QX1 LX1 MX1 hB
  refine ⟨_, rfl, hK.out _ _ (⟨QX2.out, PX2.out⟩) (fun hHeld => ?_)⟩
  clear hK K
  show wpAnyH _ _ _ _ _ _ _ (Act.put _ (some 25) _) _
  simp only [Act.put, List.setIfInBounds_toArray, List.set_cons_zero, List.set_cons_succ]
  refine wpAnyH_take (i := 4) (v := .bool false) rfl (by kernel_rfl) (by kernel_rfl) (by kernel_rfl) (fun _ _ _ h => h) (Or.inl ⟨by rfl, by intro w' h; go_simp⟩) hHeld ?_
  show wpAnyH _ _ _ _ _ _ _ (Act.put _ (some 26) _) _
  simp only [Act.put, List.setIfInBounds_toArray, List.set_cons_zero, List.set_cons_succ]
  refine wpAnyH_take (i := 5) (v := .bool false) rfl (by kernel_rfl) (by kernel_rfl) (by kernel_rfl) (fun _ _ _ h => h) (Or.inl ⟨by rfl, fun w _ => by rfl⟩) hHeld ?_
  show wpAnyH _ _ _ _ _ _ _ (Act.put _ (some 27) _) _
  simp only [Act.put, List.setIfInBounds_toArray, List.set_cons_zero, List.set_cons_succ]
  refine wpAnyH_take (i := 6) (v := .slice la (stepsL sl es node 0).length lc) rfl (by kernel_rfl) (by kernel_rfl) (by kernel_rfl) (fun _ _ _ h => h) (Or.inl ⟨by rfl, fun w _ => by rfl⟩) hHeld ?_
  show wpAnyH _ _ _ _ _ _ _ (Act.put _ (some 28) _) _
  simp only [Act.put, List.setIfInBounds_toArray, List.set_cons_zero, List.set_cons_succ]
  refine wpAnyH_take (i := 7) (v := .int .i64 ((stepsL sl es node 0).length : Int)) rfl (by kernel_rfl) (by kernel_rfl) (by kernel_rfl) (fun _ _ _ h => h) (Or.inl ⟨by rfl, by intro w' h; go_simp⟩) hHeld ?_
  show wpAnyH _ _ _ _ _ _ _ (Act.put _ (some 29) _) _
  simp only [Act.put, List.setIfInBounds_toArray, List.set_cons_zero, List.set_cons_succ]
  refine wpAnyH_take (i := 8) (v := .slice ma (stepsL sl es node 0).length mc) rfl (by kernel_rfl) (by kernel_rfl) (by kernel_rfl) (fun _ _ _ h => h) (Or.inl ⟨by rfl, fun w _ => by rfl⟩) hHeld ?_
  show wpAnyH _ _ _ _ _ _ _ (Act.put _ (some 30) _) _
  simp only [Act.put, List.setIfInBounds_toArray, List.set_cons_zero, List.set_cons_succ]
  refine wpAnyH_take (i := 9) (v := .int .i64 ((stepsL sl es node 0).length : Int)) rfl (by kernel_rfl) (by kernel_rfl) (by kernel_rfl) (fun _ _ _ h => h) (Or.inl ⟨by rfl, by intro w' h; go_simp⟩) hHeld ?_
  show wpAnyH _ _ _ _ _ _ _ (Act.put _ (some 31) _) _
  simp only [Act.put, List.setIfInBounds_toArray, List.set_cons_zero, List.set_cons_succ]
  refine wpAnyH_take (i := 10) (v := .bool false) rfl (by kernel_rfl) (by kernel_rfl) (by kernel_rfl) (fun _ _ _ h => h) (Or.inl ⟨by rfl, by intro w' h; go_simp⟩) hHeld ?_
  show wpAnyH _ _ _ _ _ _ _ (Act.put _ (some 32) _) _
  simp only [Act.put, List.setIfInBounds_toArray, List.set_cons_zero, List.set_cons_succ]
  refine wpAnyH_take (i := 11) (v := .bool false) rfl (by kernel_rfl) (by kernel_rfl) (by kernel_rfl) (fun _ _ _ h => h) (Or.inl ⟨by rfl, by intro w hSw; first | rfl | go_simp⟩) hHeld ?_
  show wpAnyH _ _ _ _ _ _ _ (Act.put _ (some 33) _) _
  simp only [Act.put, List.setIfInBounds_toArray, List.set_cons_zero, List.set_cons_succ]
  refine wpAnyH_done (by kernel_rfl) ?_ _
  have hln : (stepsL sl es node 0).length ≤ el := by rw [← HEL.out]; exact stepsL_length
  obtain ⟨n, hn⟩ : ∃ n, (stepsL sl es node 0).length = n := ⟨_, rfl⟩
  rw [hn] at hln ⊢
  have HNL := Lib.hid hn
  clear hn hHeld
  go_wp2
  go_loopw [8, 9, 36] (fun _ _ i wd => ∃ k : Nat, k ≤ n ∧ i = .int .i64 k ∧ Hid (Below w.heap.size w wd) ∧ Hid (StpRow wd la (stepsL sl es node 0)) ∧ Hid (StpRow wd ma (stepsL sl es node 0)) ∧ Hid (Blk wd gq 31 [.slice sa1 sl sc1, .slice ea1 el ec1]) ∧ Hid (EdgeRow wd ea1 es)) (fun _ _ i _ => n - (intOf i).toNat)
  case atStart => exact ⟨0, Nat.zero_le _, rfl, BX2, LX2, MX2, QX2, E1X2⟩
  case round =>
    clear BX2 LX2 MX2 QX2 E1X2 S0X2 E0X2 PX2 S1X2
    obtain ⟨k, hk, rfl, B, L, M, Q, E1⟩ := hrel
    by_cases hlt : k < n
    · have hk' : k < (stepsL sl es node 0).length := by rw [HNL.out]; exact hlt
      obtain ⟨bl, ol, rfl, hcl⟩ := L.out.at_ hk'
      obtain ⟨bm, om, rfl, hcm⟩ := M.out.at_ hk'
      obtain ⟨j, t, c, b, r, hst, hj, hsd⟩ := step_at hk'
      obtain ⟨be, oe, rfl, hce⟩ := E1.out.at_ hj
      rw [hst] at hcl hcm
      obtain ⟨p, q, c2, d, f, g, h, i, hx⟩ : ∃ p q c d f g h i, es.getD j ed0 = ⟨p, q, c, d, f, g, h, i⟩ := ⟨_, _, _, _, _, _, _, _, rfl⟩
      rw [hx] at hce hsd
      have hjl : j < el := by rw [← HEL.out]; exact hj
      have e0 : wr.cell? ⟨bl, ol + k * 5, none⟩ = some (.int .i64 (j : Int)) := hcl.2 0 _ rfl
      have e1 : wr.cell? ⟨bl, ol + k * 5 + 1, none⟩ = some (.int .i64 t) := hcl.2 1 _ rfl
      have e2 : wr.cell? ⟨bl, ol + k * 5 + 2, none⟩ = some (.int .u64 c) := hcl.2 2 _ rfl
      have e3 : wr.cell? ⟨bl, ol + k * 5 + 3, none⟩ = some (.int .u64 b) := hcl.2 3 _ rfl
      have e4 : wr.cell? ⟨bl, ol + k * 5 + 4, none⟩ = some (.int .u64 r) := hcl.2 4 _ rfl
      have Cm := Lib.hid hcm
      have Ce := Lib.hid hce
      have HSD := Lib.hid hsd
      have hk0 : (0 : Int) ≤ (k : Int) := Int.natCast_nonneg _
      have hk1 : (k : Int) < (n : Int) := by omega
      have hj0 : (0 : Int) ≤ (j : Int) := Int.natCast_nonneg _
      have hj1 : (j : Int) < (el : Int) := by omega
      clear hst hcl hcm hce hsd hx hj hk'
      have Bwr := B
      have Lwr := L
      have Mwr := M
      have Qwr := Q
      have E1wr := E1
      have Cmwr := Cm
      have Cewr := Ce
      clear B L M Q E1 Cm Ce
      have hB : Below wr.heap.size wr (wr.alloc (.cells #[.int .i64 (j : Int), .int .i64 t, .int .u64 c, .int .u64 b, .int .u64 r] 44)) := (Below.refl _ _).alloc (Nat.le_refl _) _
      have BY1 : Hid (Below w.heap.size w (wr.alloc (.cells #[.int .i64 (j : Int), .int .i64 t, .int .u64 c, .int .u64 b, .int .u64 r] 44))) := Lib.hid (Bwr.out.trans (hB.mono Bwr.out.size))
      have LY1 : Hid (StpRow (wr.alloc (.cells #[.int .i64 (j : Int), .int .i64 t, .int .u64 c, .int .u64 b, .int .u64 r] 44)) (some ⟨bl, ol, none⟩) (stepsL sl es node 0)) := Lib.hid (Lwr.out.below hB)
      have MY1 : Hid (StpRow (wr.alloc (.cells #[.int .i64 (j : Int), .int .i64 t, .int .u64 c, .int .u64 b, .int .u64 r] 44)) (some ⟨bm, om, none⟩) (stepsL sl es node 0)) := Lib.hid (Mwr.out.below hB)
      have QY1 : Hid (Blk (wr.alloc (.cells #[.int .i64 (j : Int), .int .i64 t, .int .u64 c, .int .u64 b, .int .u64 r] 44)) gq 31 [.slice sa1 sl sc1, .slice (some ⟨be, oe, none⟩) el ec1]) := Lib.hid (Qwr.out.below hB Qwr.out.lt)
      have E1Y1 : Hid (EdgeRow (wr.alloc (.cells #[.int .i64 (j : Int), .int .i64 t, .int .u64 c, .int .u64 b, .int .u64 r] 44)) (some ⟨be, oe, none⟩) es) := Lib.hid (E1wr.out.below hB)
      have CmY1 : Hid (StpAt (wr.alloc (.cells #[.int .i64 (j : Int), .int .i64 t, .int .u64 c, .int .u64 b, .int .u64 r] 44)) bm (om + k * 5) ⟨j, t, c, b, r⟩) := Lib.hid (Cmwr.out.below hB)
      have CeY1 : Hid (EdAt (wr.alloc (.cells #[.int .i64 (j : Int), .int .i64 t, .int .u64 c, .int .u64 b, .int .u64 r] 44)) be (oe + j * 8) ⟨p, q, c2, d, f, g, h, i⟩) := Lib.hid (Cewr.out.below hB)
      have VY1 : Hid (Blk (wr.alloc (.cells #[.int .i64 (j : Int), .int .i64 t, .int .u64 c, .int .u64 b, .int .u64 r] 44)) wr.heap.size 44 [.int .i64 (j : Int), .int .i64 t, .int .u64 c, .int .u64 b, .int .u64 r]) := Lib.hid (Blk.new _ _ [.int .i64 (j : Int), .int .i64 t, .int .u64 c, .int .u64 b, .int .u64 r])
      clear hB Bwr Lwr Mwr Qwr E1wr Cmwr Cewr
      go_wp2_with fail
      generalize (wr.alloc (.cells #[.int .i64 (j : Int), .int .i64 t, .int .u64 c, .int .u64 b, .int .u64 r] 44)) = Y1 at BY1 LY1 MY1 QY1 E1Y1 CmY1 CeY1 VY1 ⊢
      generalize wr.heap.size = gv at VY1 ⊢
      clear e0 e1 e2 e3 e4
      skip
      have hBz : Below Y1.heap.size Y1 Y1.drew := below_drewN (Below.refl _ _) 1
      have BX0 : Hid (Below w.heap.size w Y1.drew) := Lib.hid (BY1.out.trans (hBz.mono BY1.out.size))
      have LX0 : Hid (StpRow Y1.drew (some ⟨bl, ol, none⟩) (stepsL sl es node 0)) := Lib.hid (LY1.out.below hBz)
      have MX0 : Hid (StpRow Y1.drew (some ⟨bm, om, none⟩) (stepsL sl es node 0)) := Lib.hid (MY1.out.below hBz)
      have QX0 : Hid (Blk Y1.drew gq 31 [.slice sa1 sl sc1, .slice (some ⟨be, oe, none⟩) el ec1]) := Lib.hid (QY1.out.below hBz QY1.out.lt)
      have E1X0 : Hid (EdgeRow Y1.drew (some ⟨be, oe, none⟩) es) := Lib.hid (E1Y1.out.below hBz)
      have CmX0 : Hid (StpAt Y1.drew bm (om + k * 5) ⟨j, t, c, b, r⟩) := Lib.hid (CmY1.out.below hBz)
      have CeX0 : Hid (EdAt Y1.drew be (oe + j * 8) ⟨p, q, c2, d, f, g, h, i⟩) := Lib.hid (CeY1.out.below hBz)
      have VX0 : Hid (Blk Y1.drew gv 44 [.int .i64 (j : Int), .int .i64 t, .int .u64 c, .int .u64 b, .int .u64 r]) := Lib.hid (VY1.out.below hBz VY1.out.lt)
      clear hBz
      refine wp_region_held_drew (S := fun w' => Blk w' gv 44 [.int .i64 (j : Int), .int .i64 t, .int .u64 c, .int .u64 b, .int .u64 r] ∧ StpAt w' bm (om + k * 5) ⟨j, t, c, b, r⟩ ∧ Blk w' gq 31 [.slice sa1 sl sc1, .slice (some ⟨be, oe, none⟩) el ec1] ∧ EdAt w' be (oe + j * 8) ⟨p, q, c2, d, f, g, h, i⟩) (by kernel_rfl) (⟨VX0.out, CmX0.out, QX0.out, CeX0.out⟩) (fun hHeld => ?_)
      generalize Y1.drew = X0 at hHeld BX0 LX0 MX0 QX0 E1X0 CmX0 CeX0 VX0 ⊢
      refine wpAnyH_take (i := 0) (v := .pointer (some ⟨gv, 0, none⟩)) rfl (by kernel_rfl) (by kernel_rfl) (by kernel_rfl) (fun _ _ _ h => h) (Or.inl ⟨by rfl, by intro w' h; go_simp⟩) hHeld ?_
      show wpAnyH _ _ _ _ _ _ _ (Act.put _ (some 41) _) _
      simp only [Act.put, List.setIfInBounds_toArray, List.set_cons_zero, List.set_cons_succ]
      refine wpAnyH_take (i := 1) (v := .int .i64 (j : Int)) rfl (by kernel_rfl) (by kernel_rfl) (by kernel_rfl) (fun _ _ _ h => h) (Or.inl ⟨by rfl, by intro w' h; have k0 := Blk.cell h.1 0; simp only [List.getElem?_cons_zero] at k0; go_simp⟩) hHeld ?_
      show wpAnyH _ _ _ _ _ _ _ (Act.put _ (some 42) _) _
      simp only [Act.put, List.setIfInBounds_toArray, List.set_cons_zero, List.set_cons_succ]
      refine wpAnyH_take (i := 2) (v := .slice (some ⟨bm, om, none⟩) n mc) rfl (by kernel_rfl) (by kernel_rfl) (by kernel_rfl) (fun _ _ _ h => h) (Or.inl ⟨by rfl, fun w _ => by rfl⟩) hHeld ?_
      show wpAnyH _ _ _ _ _ _ _ (Act.put _ (some 43) _) _
      simp only [Act.put, List.setIfInBounds_toArray, List.set_cons_zero, List.set_cons_succ]
      refine wpAnyH_take (i := 3) (v := .int .i64 (k : Int)) rfl (by kernel_rfl) (by kernel_rfl) (by kernel_rfl) (fun _ _ _ h => h) (Or.inl ⟨by rfl, fun w _ => by rfl⟩) hHeld ?_
      show wpAnyH _ _ _ _ _ _ _ (Act.put _ (some 44) _) _
      simp only [Act.put, List.setIfInBounds_toArray, List.set_cons_zero, List.set_cons_succ]
      refine wpAnyH_take (i := 4) (v := .pointer (some ⟨bm, om + k * 5, none⟩)) rfl (by kernel_rfl) (by kernel_rfl) (by kernel_rfl) (fun _ _ _ h => h) (Or.inl ⟨by rfl, by intro w' h; go_simp⟩) hHeld ?_
      show wpAnyH _ _ _ _ _ _ _ (Act.put _ (some 45) _) _
      simp only [Act.put, List.setIfInBounds_toArray, List.set_cons_zero, List.set_cons_succ]
      refine wpAnyH_take (i := 5) (v := .pointer (some ⟨bm, om + k * 5, none⟩)) rfl (by kernel_rfl) (by kernel_rfl) (by kernel_rfl) (fun _ _ _ h => h) (Or.inl ⟨by rfl, by intro w' h; go_simp⟩) hHeld ?_
      show wpAnyH _ _ _ _ _ _ _ (Act.put _ (some 46) _) _
      simp only [Act.put, List.setIfInBounds_toArray, List.set_cons_zero, List.set_cons_succ]
      refine wpAnyH_take (i := 6) (v := .int .i64 (j : Int)) rfl (by kernel_rfl) (by kernel_rfl) (by kernel_rfl) (fun _ _ _ h => h) (Or.inl ⟨by rfl, by intro w' h; have k0 : w'.cell? ⟨bm, om + k * 5, none⟩ = _ := h.2.1.2 0 _ rfl; go_simp⟩) hHeld ?_
      show wpAnyH _ _ _ _ _ _ _ (Act.put _ (some 47) _) _
      simp only [Act.put, List.setIfInBounds_toArray, List.set_cons_zero, List.set_cons_succ]
      refine wpAnyH_take (i := 7) (v := .bool false) rfl (by kernel_rfl) (by kernel_rfl) (by kernel_rfl) (fun _ _ _ h => h) (Or.inl ⟨by rfl, by intro w' h; go_simp⟩) hHeld ?_
      show wpAnyH _ _ _ _ _ _ _ (Act.put _ (some 48) _) _
      simp only [Act.put, List.setIfInBounds_toArray, List.set_cons_zero, List.set_cons_succ]
      refine wpAnyH_take (i := 8) (v := .bool false) rfl (by kernel_rfl) (by kernel_rfl) (by kernel_rfl) (fun _ _ _ h => h) (Or.inl ⟨by rfl, fun w _ => by rfl⟩) hHeld ?_
      show wpAnyH _ _ _ _ _ _ _ (Act.put _ (some 49) _) _
      simp only [Act.put, List.setIfInBounds_toArray, List.set_cons_zero, List.set_cons_succ]
      refine wpAnyH_take (i := 9) (v := .pointer (some ⟨gv, 1, none⟩)) rfl (by kernel_rfl) (by kernel_rfl) (by kernel_rfl) (fun _ _ _ h => h) (Or.inl ⟨by rfl, by intro w' h; go_simp⟩) hHeld ?_
      show wpAnyH _ _ _ _ _ _ _ (Act.put _ (some 50) _) _
      simp only [Act.put, List.setIfInBounds_toArray, List.set_cons_zero, List.set_cons_succ]
      refine wpAnyH_take (i := 10) (v := .int .i64 t) rfl (by kernel_rfl) (by kernel_rfl) (by kernel_rfl) (fun _ _ _ h => h) (Or.inl ⟨by rfl, by intro w' h; have k1 := Blk.cell h.1 1; simp only [List.getElem?_cons_zero, List.getElem?_cons_succ] at k1; go_simp⟩) hHeld ?_
      show wpAnyH _ _ _ _ _ _ _ (Act.put _ (some 51) _) _
      simp only [Act.put, List.setIfInBounds_toArray, List.set_cons_zero, List.set_cons_succ]
      refine wpAnyH_take (i := 11) (v := .slice (some ⟨bm, om, none⟩) n mc) rfl (by kernel_rfl) (by kernel_rfl) (by kernel_rfl) (fun _ _ _ h => h) (Or.inl ⟨by rfl, fun w _ => by rfl⟩) hHeld ?_
      show wpAnyH _ _ _ _ _ _ _ (Act.put _ (some 52) _) _
      simp only [Act.put, List.setIfInBounds_toArray, List.set_cons_zero, List.set_cons_succ]
      refine wpAnyH_take (i := 12) (v := .int .i64 (k : Int)) rfl (by kernel_rfl) (by kernel_rfl) (by kernel_rfl) (fun _ _ _ h => h) (Or.inl ⟨by rfl, fun w _ => by rfl⟩) hHeld ?_
      show wpAnyH _ _ _ _ _ _ _ (Act.put _ (some 53) _) _
      simp only [Act.put, List.setIfInBounds_toArray, List.set_cons_zero, List.set_cons_succ]
      refine wpAnyH_take (i := 13) (v := .pointer (some ⟨bm, om + k * 5, none⟩)) rfl (by kernel_rfl) (by kernel_rfl) (by kernel_rfl) (fun _ _ _ h => h) (Or.inl ⟨by rfl, by intro w' h; go_simp⟩) hHeld ?_
      show wpAnyH _ _ _ _ _ _ _ (Act.put _ (some 54) _) _
      simp only [Act.put, List.setIfInBounds_toArray, List.set_cons_zero, List.set_cons_succ]
      refine wpAnyH_take (i := 14) (v := .pointer (some ⟨bm, om + k * 5 + 1, none⟩)) rfl (by kernel_rfl) (by kernel_rfl) (by kernel_rfl) (fun _ _ _ h => h) (Or.inl ⟨by rfl, by intro w' h; go_simp⟩) hHeld ?_
      show wpAnyH _ _ _ _ _ _ _ (Act.put _ (some 55) _) _
      simp only [Act.put, List.setIfInBounds_toArray, List.set_cons_zero, List.set_cons_succ]
      refine wpAnyH_take (i := 15) (v := .int .i64 t) rfl (by kernel_rfl) (by kernel_rfl) (by kernel_rfl) (fun _ _ _ h => h) (Or.inl ⟨by rfl, by intro w' h; have k1 : w'.cell? ⟨bm, om + k * 5 + 1, none⟩ = _ := h.2.1.2 1 _ rfl; go_simp⟩) hHeld ?_
      show wpAnyH _ _ _ _ _ _ _ (Act.put _ (some 56) _) _
      simp only [Act.put, List.setIfInBounds_toArray, List.set_cons_zero, List.set_cons_succ]
      refine wpAnyH_take (i := 16) (v := .bool false) rfl (by kernel_rfl) (by kernel_rfl) (by kernel_rfl) (fun _ _ _ h => h) (Or.inl ⟨by rfl, by intro w' h; go_simp⟩) hHeld ?_
      show wpAnyH _ _ _ _ _ _ _ (Act.put _ (some 57) _) _
      simp only [Act.put, List.setIfInBounds_toArray, List.set_cons_zero, List.set_cons_succ]
      refine wpAnyH_take (i := 17) (v := .bool false) rfl (by kernel_rfl) (by kernel_rfl) (by kernel_rfl) (fun _ _ _ h => h) (Or.inl ⟨by rfl, by intro w hSw; first | rfl | go_simp⟩) hHeld ?_
      show wpAnyH _ _ _ _ _ _ _ (Act.put _ (some 58) _) _
      simp only [Act.put, List.setIfInBounds_toArray, List.set_cons_zero, List.set_cons_succ]
      refine wpAnyH_take (i := 18) (v := .bool false) rfl (by kernel_rfl) (by kernel_rfl) (by kernel_rfl) (fun _ _ _ h => h) (Or.inl ⟨by rfl, fun w _ => by rfl⟩) hHeld ?_
      show wpAnyH _ _ _ _ _ _ _ (Act.put _ (some 59) _) _
      simp only [Act.put, List.setIfInBounds_toArray, List.set_cons_zero, List.set_cons_succ]
      refine wpAnyH_take (i := 19) (v := .pointer (some ⟨gv, 2, none⟩)) rfl (by kernel_rfl) (by kernel_rfl) (by kernel_rfl) (fun _ _ _ h => h) (Or.inl ⟨by rfl, by intro w' h; go_simp⟩) hHeld ?_
      show wpAnyH _ _ _ _ _ _ _ (Act.put _ (some 60) _) _
      simp only [Act.put, List.setIfInBounds_toArray, List.set_cons_zero, List.set_cons_succ]
      refine wpAnyH_take (i := 20) (v := .int .u64 c) rfl (by kernel_rfl) (by kernel_rfl) (by kernel_rfl) (fun _ _ _ h => h) (Or.inl ⟨by rfl, by intro w' h; have k2 := Blk.cell h.1 2; simp only [List.getElem?_cons_zero, List.getElem?_cons_succ] at k2; go_simp⟩) hHeld ?_
      show wpAnyH _ _ _ _ _ _ _ (Act.put _ (some 61) _) _
      simp only [Act.put, List.setIfInBounds_toArray, List.set_cons_zero, List.set_cons_succ]
      refine wpAnyH_take (i := 21) (v := .slice (some ⟨bm, om, none⟩) n mc) rfl (by kernel_rfl) (by kernel_rfl) (by kernel_rfl) (fun _ _ _ h => h) (Or.inl ⟨by rfl, fun w _ => by rfl⟩) hHeld ?_
      show wpAnyH _ _ _ _ _ _ _ (Act.put _ (some 62) _) _
      simp only [Act.put, List.setIfInBounds_toArray, List.set_cons_zero, List.set_cons_succ]
      refine wpAnyH_take (i := 22) (v := .int .i64 (k : Int)) rfl (by kernel_rfl) (by kernel_rfl) (by kernel_rfl) (fun _ _ _ h => h) (Or.inl ⟨by rfl, fun w _ => by rfl⟩) hHeld ?_
      show wpAnyH _ _ _ _ _ _ _ (Act.put _ (some 63) _) _
      simp only [Act.put, List.setIfInBounds_toArray, List.set_cons_zero, List.set_cons_succ]
      refine wpAnyH_take (i := 23) (v := .pointer (some ⟨bm, om + k * 5, none⟩)) rfl (by kernel_rfl) (by kernel_rfl) (by kernel_rfl) (fun _ _ _ h => h) (Or.inl ⟨by rfl, by intro w' h; go_simp⟩) hHeld ?_
      show wpAnyH _ _ _ _ _ _ _ (Act.put _ (some 64) _) _
      simp only [Act.put, List.setIfInBounds_toArray, List.set_cons_zero, List.set_cons_succ]
      refine wpAnyH_take (i := 24) (v := .pointer (some ⟨bm, om + k * 5 + 2, none⟩)) rfl (by kernel_rfl) (by kernel_rfl) (by kernel_rfl) (fun _ _ _ h => h) (Or.inl ⟨by rfl, by intro w' h; go_simp⟩) hHeld ?_
      show wpAnyH _ _ _ _ _ _ _ (Act.put _ (some 65) _) _
      simp only [Act.put, List.setIfInBounds_toArray, List.set_cons_zero, List.set_cons_succ]
      refine wpAnyH_take (i := 25) (v := .int .u64 c) rfl (by kernel_rfl) (by kernel_rfl) (by kernel_rfl) (fun _ _ _ h => h) (Or.inl ⟨by rfl, by intro w' h; have k2 : w'.cell? ⟨bm, om + k * 5 + 2, none⟩ = _ := h.2.1.2 2 _ rfl; go_simp⟩) hHeld ?_
      show wpAnyH _ _ _ _ _ _ _ (Act.put _ (some 66) _) _
      simp only [Act.put, List.setIfInBounds_toArray, List.set_cons_zero, List.set_cons_succ]
      refine wpAnyH_take (i := 26) (v := .bool false) rfl (by kernel_rfl) (by kernel_rfl) (by kernel_rfl) (fun _ _ _ h => h) (Or.inl ⟨by rfl, by intro w' h; go_simp⟩) hHeld ?_
      show wpAnyH _ _ _ _ _ _ _ (Act.put _ (some 67) _) _
      simp only [Act.put, List.setIfInBounds_toArray, List.set_cons_zero, List.set_cons_succ]
      refine wpAnyH_take (i := 27) (v := .bool false) rfl (by kernel_rfl) (by kernel_rfl) (by kernel_rfl) (fun _ _ _ h => h) (Or.inl ⟨by rfl, by intro w hSw; first | rfl | go_simp⟩) hHeld ?_
      show wpAnyH _ _ _ _ _ _ _ (Act.put _ (some 68) _) _
      simp only [Act.put, List.setIfInBounds_toArray, List.set_cons_zero, List.set_cons_succ]
      refine wpAnyH_take (i := 28) (v := .bool false) rfl (by kernel_rfl) (by kernel_rfl) (by kernel_rfl) (fun _ _ _ h => h) (Or.inl ⟨by rfl, fun w _ => by rfl⟩) hHeld ?_
      show wpAnyH _ _ _ _ _ _ _ (Act.put _ (some 69) _) _
      simp only [Act.put, List.setIfInBounds_toArray, List.set_cons_zero, List.set_cons_succ]
      refine wpAnyH_take (i := 29) (v := .pointer (some ⟨gv, 3, none⟩)) rfl (by kernel_rfl) (by kernel_rfl) (by kernel_rfl) (fun _ _ _ h => h) (Or.inl ⟨by rfl, by intro w' h; go_simp⟩) hHeld ?_
      show wpAnyH _ _ _ _ _ _ _ (Act.put _ (some 70) _) _
      simp only [Act.put, List.setIfInBounds_toArray, List.set_cons_zero, List.set_cons_succ]
      refine wpAnyH_take (i := 30) (v := .pointer (some ⟨gv, 3, none⟩)) rfl (by kernel_rfl) (by kernel_rfl) (by kernel_rfl) (fun _ _ _ h => h) (Or.inl ⟨by rfl, by intro w' h; go_simp⟩) hHeld ?_
      show wpAnyH _ _ _ _ _ _ _ (Act.put _ (some 71) _) _
      simp only [Act.put, List.setIfInBounds_toArray, List.set_cons_zero, List.set_cons_succ]
      refine wpAnyH_take (i := 31) (v := .int .u64 b) rfl (by kernel_rfl) (by kernel_rfl) (by kernel_rfl) (fun _ _ _ h => h) (Or.inl ⟨by rfl, by intro w' h; have k3 := Blk.cell h.1 3; simp only [List.getElem?_cons_zero, List.getElem?_cons_succ] at k3; go_simp⟩) hHeld ?_
      show wpAnyH _ _ _ _ _ _ _ (Act.put _ (some 72) _) _
      simp only [Act.put, List.setIfInBounds_toArray, List.set_cons_zero, List.set_cons_succ]
      refine wpAnyH_take (i := 32) (v := .slice (some ⟨bm, om, none⟩) n mc) rfl (by kernel_rfl) (by kernel_rfl) (by kernel_rfl) (fun _ _ _ h => h) (Or.inl ⟨by rfl, fun w _ => by rfl⟩) hHeld ?_
      show wpAnyH _ _ _ _ _ _ _ (Act.put _ (some 73) _) _
      simp only [Act.put, List.setIfInBounds_toArray, List.set_cons_zero, List.set_cons_succ]
      refine wpAnyH_take (i := 33) (v := .int .i64 (k : Int)) rfl (by kernel_rfl) (by kernel_rfl) (by kernel_rfl) (fun _ _ _ h => h) (Or.inl ⟨by rfl, fun w _ => by rfl⟩) hHeld ?_
      show wpAnyH _ _ _ _ _ _ _ (Act.put _ (some 74) _) _
      simp only [Act.put, List.setIfInBounds_toArray, List.set_cons_zero, List.set_cons_succ]
      refine wpAnyH_take (i := 34) (v := .pointer (some ⟨bm, om + k * 5, none⟩)) rfl (by kernel_rfl) (by kernel_rfl) (by kernel_rfl) (fun _ _ _ h => h) (Or.inl ⟨by rfl, by intro w' h; go_simp⟩) hHeld ?_
      show wpAnyH _ _ _ _ _ _ _ (Act.put _ (some 75) _) _
      simp only [Act.put, List.setIfInBounds_toArray, List.set_cons_zero, List.set_cons_succ]
      refine wpAnyH_take (i := 35) (v := .pointer (some ⟨bm, om + k * 5 + 3, none⟩)) rfl (by kernel_rfl) (by kernel_rfl) (by kernel_rfl) (fun _ _ _ h => h) (Or.inl ⟨by rfl, by intro w' h; go_simp⟩) hHeld ?_
      show wpAnyH _ _ _ _ _ _ _ (Act.put _ (some 76) _) _
      simp only [Act.put, List.setIfInBounds_toArray, List.set_cons_zero, List.set_cons_succ]
      refine wpAnyH_take (i := 36) (v := .pointer (some ⟨bm, om + k * 5 + 3, none⟩)) rfl (by kernel_rfl) (by kernel_rfl) (by kernel_rfl) (fun _ _ _ h => h) (Or.inl ⟨by rfl, by intro w' h; go_simp⟩) hHeld ?_
      show wpAnyH _ _ _ _ _ _ _ (Act.put _ (some 77) _) _
      simp only [Act.put, List.setIfInBounds_toArray, List.set_cons_zero, List.set_cons_succ]
      refine wpAnyH_take (i := 37) (v := .int .u64 b) rfl (by kernel_rfl) (by kernel_rfl) (by kernel_rfl) (fun _ _ _ h => h) (Or.inl ⟨by rfl, by intro w' h; have k3 : w'.cell? ⟨bm, om + k * 5 + 3, none⟩ = _ := h.2.1.2 3 _ rfl; go_simp⟩) hHeld ?_
      show wpAnyH _ _ _ _ _ _ _ (Act.put _ (some 78) _) _
      simp only [Act.put, List.setIfInBounds_toArray, List.set_cons_zero, List.set_cons_succ]
      refine wpAnyH_take (i := 38) (v := .bool false) rfl (by kernel_rfl) (by kernel_rfl) (by kernel_rfl) (fun _ _ _ h => h) (Or.inl ⟨by rfl, by intro w' h; go_simp⟩) hHeld ?_
      show wpAnyH _ _ _ _ _ _ _ (Act.put _ (some 79) _) _
      simp only [Act.put, List.setIfInBounds_toArray, List.set_cons_zero, List.set_cons_succ]
      refine wpAnyH_take (i := 39) (v := .bool false) rfl (by kernel_rfl) (by kernel_rfl) (by kernel_rfl) (fun _ _ _ h => h) (Or.inl ⟨by rfl, by intro w hSw; first | rfl | go_simp⟩) hHeld ?_
      show wpAnyH _ _ _ _ _ _ _ (Act.put _ (some 80) _) _
      simp only [Act.put, List.setIfInBounds_toArray, List.set_cons_zero, List.set_cons_succ]
      refine wpAnyH_take (i := 40) (v := .bool false) rfl (by kernel_rfl) (by kernel_rfl) (by kernel_rfl) (fun _ _ _ h => h) (Or.inl ⟨by rfl, fun w _ => by rfl⟩) hHeld ?_
      show wpAnyH _ _ _ _ _ _ _ (Act.put _ (some 81) _) _
      simp only [Act.put, List.setIfInBounds_toArray, List.set_cons_zero, List.set_cons_succ]
      refine wpAnyH_take (i := 41) (v := .pointer (some ⟨gv, 3, none⟩)) rfl (by kernel_rfl) (by kernel_rfl) (by kernel_rfl) (fun _ _ _ h => h) (Or.inl ⟨by rfl, by intro w' h; go_simp⟩) hHeld ?_
      show wpAnyH _ _ _ _ _ _ _ (Act.put _ (some 82) _) _
      simp only [Act.put, List.setIfInBounds_toArray, List.set_cons_zero, List.set_cons_succ]
      refine wpAnyH_take (i := 42) (v := .pointer (some ⟨gv, 4, none⟩)) rfl (by kernel_rfl) (by kernel_rfl) (by kernel_rfl) (fun _ _ _ h => h) (Or.inl ⟨by rfl, by intro w' h; go_simp⟩) hHeld ?_
      show wpAnyH _ _ _ _ _ _ _ (Act.put _ (some 83) _) _
      simp only [Act.put, List.setIfInBounds_toArray, List.set_cons_zero, List.set_cons_succ]
      refine wpAnyH_take (i := 43) (v := .int .u64 r) rfl (by kernel_rfl) (by kernel_rfl) (by kernel_rfl) (fun _ _ _ h => h) (Or.inl ⟨by rfl, by intro w' h; have k4 := Blk.cell h.1 4; simp only [List.getElem?_cons_zero, List.getElem?_cons_succ] at k4; go_simp⟩) hHeld ?_
      show wpAnyH _ _ _ _ _ _ _ (Act.put _ (some 84) _) _
      simp only [Act.put, List.setIfInBounds_toArray, List.set_cons_zero, List.set_cons_succ]
      refine wpAnyH_take (i := 44) (v := .slice (some ⟨bm, om, none⟩) n mc) rfl (by kernel_rfl) (by kernel_rfl) (by kernel_rfl) (fun _ _ _ h => h) (Or.inl ⟨by rfl, fun w _ => by rfl⟩) hHeld ?_
      show wpAnyH _ _ _ _ _ _ _ (Act.put _ (some 85) _) _
      simp only [Act.put, List.setIfInBounds_toArray, List.set_cons_zero, List.set_cons_succ]
      refine wpAnyH_take (i := 45) (v := .int .i64 (k : Int)) rfl (by kernel_rfl) (by kernel_rfl) (by kernel_rfl) (fun _ _ _ h => h) (Or.inl ⟨by rfl, fun w _ => by rfl⟩) hHeld ?_
      show wpAnyH _ _ _ _ _ _ _ (Act.put _ (some 86) _) _
      simp only [Act.put, List.setIfInBounds_toArray, List.set_cons_zero, List.set_cons_succ]
      refine wpAnyH_take (i := 46) (v := .pointer (some ⟨bm, om + k * 5, none⟩)) rfl (by kernel_rfl) (by kernel_rfl) (by kernel_rfl) (fun _ _ _ h => h) (Or.inl ⟨by rfl, by intro w' h; go_simp⟩) hHeld ?_
      show wpAnyH _ _ _ _ _ _ _ (Act.put _ (some 87) _) _
      simp only [Act.put, List.setIfInBounds_toArray, List.set_cons_zero, List.set_cons_succ]
      refine wpAnyH_take (i := 47) (v := .pointer (some ⟨bm, om + k * 5 + 3, none⟩)) rfl (by kernel_rfl) (by kernel_rfl) (by kernel_rfl) (fun _ _ _ h => h) (Or.inl ⟨by rfl, by intro w' h; go_simp⟩) hHeld ?_
      show wpAnyH _ _ _ _ _ _ _ (Act.put _ (some 88) _) _
      simp only [Act.put, List.setIfInBounds_toArray, List.set_cons_zero, List.set_cons_succ]
      refine wpAnyH_take (i := 48) (v := .pointer (some ⟨bm, om + k * 5 + 4, none⟩)) rfl (by kernel_rfl) (by kernel_rfl) (by kernel_rfl) (fun _ _ _ h => h) (Or.inl ⟨by rfl, by intro w' h; go_simp⟩) hHeld ?_
      show wpAnyH _ _ _ _ _ _ _ (Act.put _ (some 89) _) _
      simp only [Act.put, List.setIfInBounds_toArray, List.set_cons_zero, List.set_cons_succ]
      refine wpAnyH_take (i := 49) (v := .int .u64 r) rfl (by kernel_rfl) (by kernel_rfl) (by kernel_rfl) (fun _ _ _ h => h) (Or.inl ⟨by rfl, by intro w' h; have k4 : w'.cell? ⟨bm, om + k * 5 + 4, none⟩ = _ := h.2.1.2 4 _ rfl; go_simp⟩) hHeld ?_
      show wpAnyH _ _ _ _ _ _ _ (Act.put _ (some 90) _) _
      simp only [Act.put, List.setIfInBounds_toArray, List.set_cons_zero, List.set_cons_succ]
      refine wpAnyH_take (i := 50) (v := .bool false) rfl (by kernel_rfl) (by kernel_rfl) (by kernel_rfl) (fun _ _ _ h => h) (Or.inl ⟨by rfl, by intro w' h; go_simp⟩) hHeld ?_
      show wpAnyH _ _ _ _ _ _ _ (Act.put _ (some 91) _) _
      simp only [Act.put, List.setIfInBounds_toArray, List.set_cons_zero, List.set_cons_succ]
      refine wpAnyH_take (i := 51) (v := .bool false) rfl (by kernel_rfl) (by kernel_rfl) (by kernel_rfl) (fun _ _ _ h => h) (Or.inl ⟨by rfl, by intro w hSw; first | rfl | go_simp⟩) hHeld ?_
      show wpAnyH _ _ _ _ _ _ _ (Act.put _ (some 92) _) _
      simp only [Act.put, List.setIfInBounds_toArray, List.set_cons_zero, List.set_cons_succ]
      refine wpAnyH_take (i := 52) (v := .bool false) rfl (by kernel_rfl) (by kernel_rfl) (by kernel_rfl) (fun _ _ _ h => h) (Or.inl ⟨by rfl, fun w _ => by rfl⟩) hHeld ?_
      show wpAnyH _ _ _ _ _ _ _ (Act.put _ (some 93) _) _
      simp only [Act.put, List.setIfInBounds_toArray, List.set_cons_zero, List.set_cons_succ]
      refine wpAnyH_take (i := 53) (v := .pointer (some ⟨gq, 1, none⟩)) rfl (by kernel_rfl) (by kernel_rfl) (by kernel_rfl) (fun _ _ _ h => h) (Or.inl ⟨by rfl, by intro w' h; go_simp⟩) hHeld ?_
      show wpAnyH _ _ _ _ _ _ _ (Act.put _ (some 94) _) _
      simp only [Act.put, List.setIfInBounds_toArray, List.set_cons_zero, List.set_cons_succ]
      refine wpAnyH_take (i := 54) (v := .slice (some ⟨be, oe, none⟩) el ec1) rfl (by kernel_rfl) (by kernel_rfl) (by kernel_rfl) (fun _ _ _ h => h) (Or.inl ⟨by rfl, by intro w' h; have k1 := Blk.cell h.2.2.1 1; simp only [List.getElem?_cons_zero, List.getElem?_cons_succ] at k1; go_simp⟩) hHeld ?_
      show wpAnyH _ _ _ _ _ _ _ (Act.put _ (some 95) _) _
      simp only [Act.put, List.setIfInBounds_toArray, List.set_cons_zero, List.set_cons_succ]
      refine wpAnyH_take (i := 55) (v := .pointer (some ⟨gv, 0, none⟩)) rfl (by kernel_rfl) (by kernel_rfl) (by kernel_rfl) (fun _ _ _ h => h) (Or.inl ⟨by rfl, by intro w' h; go_simp⟩) hHeld ?_
      show wpAnyH _ _ _ _ _ _ _ (Act.put _ (some 96) _) _
      simp only [Act.put, List.setIfInBounds_toArray, List.set_cons_zero, List.set_cons_succ]
      refine wpAnyH_take (i := 56) (v := .int .i64 (j : Int)) rfl (by kernel_rfl) (by kernel_rfl) (by kernel_rfl) (fun _ _ _ h => h) (Or.inl ⟨by rfl, by intro w' h; have k0 := Blk.cell h.1 0; simp only [List.getElem?_cons_zero] at k0; go_simp⟩) hHeld ?_
      show wpAnyH _ _ _ _ _ _ _ (Act.put _ (some 97) _) _
      simp only [Act.put, List.setIfInBounds_toArray, List.set_cons_zero, List.set_cons_succ]
      refine wpAnyH_take (i := 57) (v := .pointer (some ⟨be, oe + j * 8, none⟩)) rfl (by kernel_rfl) (by kernel_rfl) (by kernel_rfl) (fun _ _ _ h => h) (Or.inl ⟨by rfl, by intro w' h; go_simp⟩) hHeld ?_
      show wpAnyH _ _ _ _ _ _ _ (Act.put _ (some 98) _) _
      simp only [Act.put, List.setIfInBounds_toArray, List.set_cons_zero, List.set_cons_succ]
      refine wpAnyH_take (i := 58) (v := .agg #[.int .i64 p, .int .i64 q, .int .u64 c2, .int .u64 d, .int .u64 f, .int .u64 g, .int .u64 h, .int .u64 i]) rfl (by kernel_rfl) (by kernel_rfl) (by kernel_rfl) (fun _ _ _ h => h) (Or.inl ⟨by rfl, by intro w' h; have k0 : w'.cell? ⟨be, oe + j * 8, none⟩ = _ := h.2.2.2.2 0 _ rfl; have k1 : w'.cell? ⟨be, oe + j * 8 + 1, none⟩ = _ := h.2.2.2.2 1 _ rfl; have k2 : w'.cell? ⟨be, oe + j * 8 + 2, none⟩ = _ := h.2.2.2.2 2 _ rfl; have k3 : w'.cell? ⟨be, oe + j * 8 + 3, none⟩ = _ := h.2.2.2.2 3 _ rfl; have k4 : w'.cell? ⟨be, oe + j * 8 + 4, none⟩ = _ := h.2.2.2.2 4 _ rfl; have k5 : w'.cell? ⟨be, oe + j * 8 + 5, none⟩ = _ := h.2.2.2.2 5 _ rfl; have k6 : w'.cell? ⟨be, oe + j * 8 + 6, none⟩ = _ := h.2.2.2.2 6 _ rfl; have k7 : w'.cell? ⟨be, oe + j * 8 + 7, none⟩ = _ := h.2.2.2.2 7 _ rfl; go_simp⟩) hHeld ?_
      show wpAnyH _ _ _ _ _ _ _ (Act.put _ (some 99) _) _
      simp only [Act.put, List.setIfInBounds_toArray, List.set_cons_zero, List.set_cons_succ]
      refine wpAnyH_take (i := 59) (v := .int .i64 node) rfl (by kernel_rfl) (by kernel_rfl) (by kernel_rfl) (fun _ _ _ h => h) (Or.inl ⟨by rfl, fun w _ => by rfl⟩) hHeld ?_
      show wpAnyH _ _ _ _ _ _ _ (Act.put _ (some 100) _) _
      simp only [Act.put, List.setIfInBounds_toArray, List.set_cons_zero, List.set_cons_succ]
      refine wpAnyH_ready (rs := [60]) (by kernel_rfl) (by simp) ?_
      refine AllReadyH.cons rfl (fun K hK => ?_) AllReadyH.nil
      refine step_call rfl 20 #[.tmp 99, .tmp 100] #[52, 3] rfl #[.agg #[.int .i64 p, .int .i64 q, .int .u64 c2, .int .u64 d, .int .u64 f, .int .u64 g, .int .u64 h, .int .u64 i], .int .i64 node] (by simp [Act.eval]) (by go_simp) (eside_any ⟨p, q, c2, d, f, g, h, i⟩ node X0) ?_
      rintro e X1 ⟨rfl, hB⟩
      have BX1 : Hid (Below w.heap.size w X1) := Lib.hid (BX0.out.trans (hB.mono BX0.out.size))
      have LX1 : Hid (StpRow X1 (some ⟨bl, ol, none⟩) (stepsL sl es node 0)) := Lib.hid (LX0.out.below hB)
      have MX1 : Hid (StpRow X1 (some ⟨bm, om, none⟩) (stepsL sl es node 0)) := Lib.hid (MX0.out.below hB)
      have QX1 : Hid (Blk X1 gq 31 [.slice sa1 sl sc1, .slice (some ⟨be, oe, none⟩) el ec1]) := Lib.hid (QX0.out.below hB QX0.out.lt)
      have E1X1 : Hid (EdgeRow X1 (some ⟨be, oe, none⟩) es) := Lib.hid (E1X0.out.below hB)
      have CmX1 : Hid (StpAt X1 bm (om + k * 5) ⟨j, t, c, b, r⟩) := Lib.hid (CmX0.out.below hB)
      have CeX1 : Hid (EdAt X1 be (oe + j * 8) ⟨p, q, c2, d, f, g, h, i⟩) := Lib.hid (CeX0.out.below hB)
      have VX1 : Hid (Blk X1 gv 44 [.int .i64 (j : Int), .int .i64 t, .int .u64 c, .int .u64 b, .int .u64 r]) := Lib.hid (VX0.out.below hB VX0.out.lt)
      clear BX0 LX0 MX0 QX0 E1X0 CmX0 CeX0 VX0 hB
      refine ⟨_, rfl, hK.out _ _ (⟨VX1.out, CmX1.out, QX1.out, CeX1.out⟩) (fun hHeld => ?_)⟩
      clear hK K
      show wpAnyH _ _ _ _ _ _ _ (Act.put _ (some 101) _) _
      simp only [Act.put, List.setIfInBounds_toArray, List.set_cons_zero, List.set_cons_succ]
      refine wpAnyH_take (i := 61) (v := .bool false) rfl (by kernel_rfl) (by kernel_rfl) (by kernel_rfl) (fun _ _ _ h => h) (Or.inl ⟨by rfl, by intro w' _; have hs := HSD.out; rcases hs with hs | hs <;> rw [hs] <;> go_simp⟩) hHeld ?_
      show wpAnyH _ _ _ _ _ _ _ (Act.put _ (some 102) _) _
      simp only [Act.put, List.setIfInBounds_toArray, List.set_cons_zero, List.set_cons_succ]
      refine wpAnyH_take (i := 62) (v := .bool false) rfl (by kernel_rfl) (by kernel_rfl) (by kernel_rfl) (fun _ _ _ h => h) (Or.inl ⟨by rfl, by intro w hSw; first | rfl | go_simp⟩) hHeld ?_
      show wpAnyH _ _ _ _ _ _ _ (Act.put _ (some 103) _) _
      simp only [Act.put, List.setIfInBounds_toArray, List.set_cons_zero, List.set_cons_succ]
      refine wpAnyH_done (by kernel_rfl) ?_ _
      clear hHeld
      go_wp2
      go_roundw
      case rel => exact ⟨k + 1, by omega, by go_num, BX1, LX1, MX1, QX1, E1X1⟩
      case measure => simp [intOf] <;> omega
    · go_wp2_with fail
      refine (wawake_any _).mono ?_
      rintro e Y9 ⟨rfl, hB⟩
      have B9 := Lib.hid (B.out.trans (hB.mono B.out.size))
      clear hB
      go_wp2
      go_ret
      exact ⟨rfl, B9.out⟩

set_option maxRecDepth 100000 in
theorem lifted (os : Os) (started : os.Started) (H : Type) (enc : TypeId × Value → H) :
    ReturnsInHanded {} Try.checked os 3 .any (Rows.webStepsSpec.pre6 enc Try.prog Try.f3 Rows.webStepsRow.domain false) (Rows.webStepsSpec.post enc Try.prog Try.f3 false true false false) := by
  refine returnsInHanded_of_change (C := Try.checked) own started (by kernel_rfl) Try.func3
    (ChangeSpec.witness6 (enc := enc) (C := Try.checked) false ⟨#[], #[.agg #[.slice none 0 0, .slice none 0 0], .int .i64 0], []⟩ 8 (by kernel_rfl) (by kernel_rfl) (by kernel_rfl) (by kernel_rfl)) ?_
  intro W base args ds gs before hval0 hW hcnd _
  have hval : ∀ (j : Nat) t v, Try.f3.params[j]? = some t → args[j]? = some v → Value.okWide Try.prog W .any base t v := hval0
  have hW' := hW
  obtain ⟨p, q, hA0, hV, rfl, hfz, hnd⟩ := hW
  have hA : DataW.TrodAll enc Try.prog W 0 (fun _ => true) true Try.f3.params.toList args.toList ds p := hA0
  rw [Try.params3] at hA hval
  obtain ⟨v0, vs0, dd0, ds0, p0, q0, hargs, rfl, rfl, h0, r0⟩ := trodAll_cons hA
  obtain ⟨v1, vs1, dd1, ds1, p1, q1, rfl, rfl, rfl, h1, r1⟩ := trodAll_cons r0
  obtain ⟨rfl, rfl, rfl⟩ := trodAll_nil r1
  obtain rfl : args = #[v0, v1] := by cases args; simp_all
  obtain ⟨rfl, rfl⟩ := trodVars_none hV
  have k0 := h0
  have lt0 : ∀ x ∈ p0, x.block < W.heap.size := by obtain ⟨m, hm⟩ := k0; exact DataW.trod_lt m _ _ _ hm
  obtain ⟨A0, l0, c0, B0, m0, d0, sp0, es0, rfl, hsp0, hes0, hS0, hE0, hok0, hm0, hn0⟩ := openWeb (hval 0 25 v0 rfl rfl) h0
  obtain ⟨a1, rfl, rfl, rfl, w1⟩ := open_int Try.underlying3 (hval 1 3 v1 rfl rfl) h1
  clear hA0 hval0
  refine Calls.mono (R := Ok W) ?_ fun e W1 ⟨he, bel⟩ => ?_
  · skip
    by_cases h : lightB l0 m0 = true
    · exact way_light A0 l0 c0 B0 m0 d0 sp0 es0 a1 W h hsp0 hes0 hS0 hE0 hok0
    · exact way_dark A0 l0 c0 B0 m0 d0 a1 W (by simpa using h)
  subst he
  exact ⟨_, rfl, _, _, _, [], _, [], hW', trodAll_mk1 (shut_bool Try.underlying4 _), (trodAll_cons_mk (Below.trod laidOut (by kernel_rfl) (of_decide_eq_true (by kernel_rfl)) k0 bel lt0) (trodAll_cons_mk (shut_int Try.underlying3 w1) trodAll_mk0)), rfl, bel.frame _, fun h => by cases h⟩

theorem proved : Rows.WebStepsSaid :=
  OpenClaim.holds_of_wide 3 Try.f3 rfl rfl rfl rfl rfl rfl rfl ⟨rfl, rfl, rfl, rfl, rfl⟩ rfl rfl rfl rfl rfl (by kernel_rfl) Try.func3 (by kernel_rfl)
    (of_decide_eq_true (by kernel_rfl)) (by unfold Func.isWrapper; first | (rw [if_pos (by decide +kernel)]; kernel_rfl) | (rw [if_neg (by decide +kernel)]; exact ⟨rfl, rfl⟩))
    (fun os started H enc _ => lifted os started H enc)
#print axioms proved
end Go.Proofs.Ytnnimjaigciedaa.webSteps
