/-
  Routes that go on from a trail (each, 60), where it has arrived, or may go no further.
-/
import Derived.Test.YtnnimjaigciedaaM14
namespace Go.Proofs.Ytnnimjaigciedaa
open Go.RowKit
set_option linter.unusedVariables false

set_option maxRecDepth 100000 in
set_option maxHeartbeats 8000000 in
theorem each_goal (sa : Option Addr) (sl sc : Nat) (ea : Option Addr) (el ec : Nat) (es : List Ed) (goal amt : Int) (f : Nat) (na : Option Addr) (n nc : Nat) (ta : Option Addr) (tl tc : Nat) (l : List Int) (s : List Stp) (acc : List Rt) (a : Option Addr) (c gl : Nat) (w : World) (hll : l.length = n) (hn0 : 0 < n) (hn : n ≤ 90) (htl : s.length = tl) (ht2 : tl ≤ 90) (hL : w.ownsRow (gl + 1) 3 1 (.slice na n nc) n (ins l)) (hS : w.ownsRow (gl + 1) 44 5 (.slice ta tl tc) tl (sflat s)) (hF : Found w gl amt acc a c) (hac : acc.length < 32) (ham : Word amt) (hw : ∀ q ∈ s, Word q.b ∧ Word q.r) (hg : lastI l = goal) (h0 : 0 < tl) :
    Calls Try.prog 60 #[.agg #[.slice sa sl sc, .slice ea el ec, .int .i64 goal, .int .u64 amt], .agg #[.slice na n nc, .slice ta tl tc], .func (.func 62) #[] #[.pointer (some ⟨gl, 0, none⟩)]] w (EachPost sl es goal amt f l s acc gl w) := by
  have HEQ := Lib.hid (fun A : List Tr => eachL_goal (sl := sl) (es := es) (amt := amt) (f := f) (s := s) (acc := A) hg)
  have HLA : Hid (l.getD (n - 1) 0 = goal) := Lib.hid (by rw [← hll]; exact hg)
  clear hg
  have HLL := Lib.hid hll
  have HTL := Lib.hid htl
  have HLO := Lib.hid hL
  have HSO := Lib.hid hS
  have HFF := Lib.hid hF
  have hgl := hF.var.lt
  have HAM := Lib.hid ham
  have HWW := Lib.hid hw
  have BV : Hid (Below w.heap.size w ((w.alloc (.cells #[.slice sa sl sc, .slice ea el ec, .int .i64 goal, .int .u64 amt] 117)).alloc (.cells #[.slice na n nc, .slice ta tl tc] 122))) := Lib.hid (((Below.refl _ _).alloc (Nat.le_refl _) _).alloc (by simp) _)
  have GV : Hid (Blk ((w.alloc (.cells #[.slice sa sl sc, .slice ea el ec, .int .i64 goal, .int .u64 amt] 117)).alloc (.cells #[.slice na n nc, .slice ta tl tc] 122)) w.heap.size 117 [.slice sa sl sc, .slice ea el ec, .int .i64 goal, .int .u64 amt]) := Lib.hid ((Blk.new w 117 [.slice sa sl sc, .slice ea el ec, .int .i64 goal, .int .u64 amt]).alloc _)
  have TV : Hid (Blk ((w.alloc (.cells #[.slice sa sl sc, .slice ea el ec, .int .i64 goal, .int .u64 amt] 117)).alloc (.cells #[.slice na n nc, .slice ta tl tc] 122)) (w.heap.size + 1) 122 [.slice na n nc, .slice ta tl tc]) := Lib.hid (Blk.mk_ (cs := [.slice na n nc, .slice ta tl tc]) (by simp))
  clear hll htl hL hS hF ham hw
  go_enter Try.func60, Try.ntmps60
  go_upto_region 1 with fail
  generalize ((w.alloc (.cells #[.slice sa sl sc, .slice ea el ec, .int .i64 goal, .int .u64 amt] 117)).alloc (.cells #[.slice na n nc, .slice ta tl tc] 122)) = V at BV GV TV ⊢
  have hgt9 : w.heap.size < w.heap.size + 1 := by omega
  obtain ⟨gt, hgt⟩ : ∃ g, w.heap.size + 1 = g := ⟨_, rfl⟩
  rw [hgt] at TV hgt9 ⊢
  clear hgt
  have hBz : Below V.heap.size V V.drew := below_drewN (Below.refl _ _) 1
  have GX0 : Hid (Blk V.drew w.heap.size 117 [.slice sa sl sc, .slice ea el ec, .int .i64 goal, .int .u64 amt]) := Lib.hid (GV.out.below hBz GV.out.lt)
  have TX0 : Hid (Blk V.drew gt 122 [.slice na n nc, .slice ta tl tc]) := Lib.hid (TV.out.below hBz TV.out.lt)
  have BX0 : Hid (Below w.heap.size w V.drew) := Lib.hid (BV.out.trans (hBz.mono BV.out.size))
  clear hBz
  refine wp_region_held_drew (S := fun w' => Blk w' w.heap.size 117 [.slice sa sl sc, .slice ea el ec, .int .i64 goal, .int .u64 amt] ∧ Blk w' gt 122 [.slice na n nc, .slice ta tl tc]) (by kernel_rfl) (⟨GX0.out, TX0.out⟩) (fun hHeld => ?_)
  generalize V.drew = X0 at hHeld GX0 TX0 BX0 ⊢
  refine wpAnyH_take (i := 0) (v := .agg #[.slice na n nc, .slice ta tl tc]) rfl (by kernel_rfl) (by kernel_rfl) (by kernel_rfl) (fun _ _ _ h => h) (Or.inl ⟨by rfl, by intro w' h; have k0 := Blk.cell h.2 0; have k1 := Blk.cell h.2 1; simp only [List.getElem?_cons_zero, List.getElem?_cons_succ] at k0 k1; go_simp⟩) hHeld ?_
  show wpAnyH _ _ _ _ _ _ _ (Act.put _ (some 11) _) _
  simp only [Act.put, List.setIfInBounds_toArray, List.set_cons_zero, List.set_cons_succ]
  refine wpAnyH_take (i := 2) (v := .pointer (some ⟨w.heap.size, 2, none⟩)) rfl (by kernel_rfl) (by kernel_rfl) (by kernel_rfl) (fun _ _ _ h => h) (Or.inl ⟨by rfl, by intro w' h; go_simp⟩) hHeld ?_
  show wpAnyH _ _ _ _ _ _ _ (Act.put _ (some 13) _) _
  simp only [Act.put, List.setIfInBounds_toArray, List.set_cons_zero, List.set_cons_succ]
  refine wpAnyH_take (i := 3) (v := .int .i64 goal) rfl (by kernel_rfl) (by kernel_rfl) (by kernel_rfl) (fun _ _ _ h => h) (Or.inl ⟨by rfl, by intro w' h; have k0 := Blk.cell h.1 2; simp only [List.getElem?_cons_zero, List.getElem?_cons_succ] at k0; go_simp⟩) hHeld ?_
  show wpAnyH _ _ _ _ _ _ _ (Act.put _ (some 14) _) _
  simp only [Act.put, List.setIfInBounds_toArray, List.set_cons_zero, List.set_cons_succ]
  refine wpAnyH_ready (rs := [1]) (by kernel_rfl) (by simp) ?_
  refine AllReadyH.cons rfl (fun K hK => ?_) AllReadyH.nil
  refine step_call rfl 70 #[.tmp 11] #[122] rfl #[.agg #[.slice na n nc, .slice ta tl tc]] (by simp [Act.eval]) (by go_simp) (end_any na n nc ta tl tc l X0 (irow_own (Mon.own_below HLO.out BX0.out) HLL.out) HLL.out hn0 (by omega)) ?_
  rintro e X1 ⟨rfl, hB⟩
  rw [HLA.out]
  have GX1 : Hid (Blk X1 w.heap.size 117 [.slice sa sl sc, .slice ea el ec, .int .i64 goal, .int .u64 amt]) := Lib.hid (GX0.out.below hB GX0.out.lt)
  have TX1 : Hid (Blk X1 gt 122 [.slice na n nc, .slice ta tl tc]) := Lib.hid (TX0.out.below hB TX0.out.lt)
  have BX1 : Hid (Below w.heap.size w X1) := Lib.hid (BX0.out.trans (hB.mono BX0.out.size))
  clear GX0 TX0 BX0 hB
  refine ⟨_, rfl, hK.out _ _ (⟨GX1.out, TX1.out⟩) (fun hHeld => ?_)⟩
  clear hK K
  show wpAnyH _ _ _ _ _ _ _ (Act.put _ (some 12) _) _
  simp only [Act.put, List.setIfInBounds_toArray, List.set_cons_zero, List.set_cons_succ]
  refine wpAnyH_take (i := 4) (v := .bool true) rfl (by kernel_rfl) (by kernel_rfl) (by kernel_rfl) (fun _ _ _ h => h) (Or.inl ⟨by rfl, by intro w' h; go_simp⟩) hHeld ?_
  show wpAnyH _ _ _ _ _ _ _ (Act.put _ (some 15) _) _
  simp only [Act.put, List.setIfInBounds_toArray, List.set_cons_zero, List.set_cons_succ]
  refine wpAnyH_done (by kernel_rfl) ?_ _
  clear hHeld
  have g0 : X1.cell? ⟨w.heap.size, 0, none⟩ = some (.slice sa sl sc) := GX1.out.cell 0
  have g1 : X1.cell? ⟨w.heap.size, 1, none⟩ = some (.slice ea el ec) := GX1.out.cell 1
  have g2 : X1.cell? ⟨w.heap.size, 2, none⟩ = some (.int .i64 goal) := GX1.out.cell 2
  have g3 : X1.cell? ⟨w.heap.size, 3, none⟩ = some (.int .u64 amt) := GX1.out.cell 3
  have t0 : X1.cell? ⟨gt, 0, none⟩ = some (.slice na n nc) := TX1.out.cell 0
  have t1 : X1.cell? ⟨gt, 1, none⟩ = some (.slice ta tl tc) := TX1.out.cell 1
  go_wp2_with fail
  clear g0 g1 g2 g3 t0 t1
  refine (priced_any sa sl sc ea el ec goal amt na n nc ta tl tc s X1 (srow_own (Mon.own_below HSO.out BX1.out) HTL.out) HTL.out h0 (by omega) HAM.out HWW.out).mono ?_
  rintro e Y ⟨hB, hP⟩
  have BY := Lib.hid (BX1.out.trans (hB.mono BX1.out.size))
  rcases hP with ⟨hok, ga, gc, aa, ac, rfl, hga, haa⟩ | ⟨hno, rfl⟩
  · rw [HTL.out] at hga haa ⊢
    have HGA := Lib.hid (own_lower hga (show gl + 1 ≤ X1.heap.size by have := BX1.out.size; omega))
    have HAA := Lib.hid (own_lower haa (show gl + 1 ≤ X1.heap.size by have := BX1.out.size; omega))
    have HOK := Lib.hid hok
    clear hga haa hok hB GX1 TX1 BX1
    have hBo : Below Y.heap.size Y (Y.alloc (.cells #[.slice na n nc, .slice ga tl gc, .slice aa tl ac] 89)) := (Below.refl _ _).alloc (Nat.le_refl _) _
    have r0 : (Y.alloc (.cells #[.slice na n nc, .slice ga tl gc, .slice aa tl ac] 89)).cell? ⟨Y.heap.size, 0, none⟩ = some (.slice na n nc) := (Blk.new Y 89 [.slice na n nc, .slice ga tl gc, .slice aa tl ac]).cell 0
    have r1 : (Y.alloc (.cells #[.slice na n nc, .slice ga tl gc, .slice aa tl ac] 89)).cell? ⟨Y.heap.size, 1, none⟩ = some (.slice ga tl gc) := (Blk.new Y 89 [.slice na n nc, .slice ga tl gc, .slice aa tl ac]).cell 1
    have r2 : (Y.alloc (.cells #[.slice na n nc, .slice ga tl gc, .slice aa tl ac] 89)).cell? ⟨Y.heap.size, 2, none⟩ = some (.slice aa tl ac) := (Blk.new Y 89 [.slice na n nc, .slice ga tl gc, .slice aa tl ac]).cell 2
    have BW := Lib.hid (BY.out.trans (hBo.mono BY.out.size))
    have GW := Lib.hid (Mon.own_below HGA.out hBo)
    have AW := Lib.hid (Mon.own_below HAA.out hBo)
    clear hBo BY HGA HAA
    go_wp2_with fail
    clear r0 r1 r2
    generalize Y.alloc (.cells #[.slice na n nc, .slice ga tl gc, .slice aa tl ac] 89) = W1 at BW GW AW ⊢
    have hcall := found_any gl amt acc a c ⟨na, nc, ga, gc, aa, ac, l, s⟩ W1 (HFF.out.below BW.out) ⟨by rw [HLL.out]; exact Mon.own_below HLO.out BW.out, by simp only [HTL.out]; exact GW.out, by simp only [HTL.out]; exact AW.out⟩ (by omega)
    simp only [HLL.out, HTL.out] at hcall
    refine hcall.mono ?_
    rintro e W2 ⟨rfl, ⟨a2, c2, hF2⟩, hK⟩
    have HF2 := Lib.hid hF2
    have HK2 := Lib.hid ((Kp.of_below BW.out (by omega)).trans hK)
    clear hcall hF2 hK BW GW AW
    go_wp2
    go_ret
    refine ⟨acc ++ [⟨na, nc, ga, gc, aa, ac, l, s⟩], _, rfl, ?_, ⟨a2, c2, HF2.out⟩, HK2.out⟩
    rw [HEQ.out, if_pos HOK.out]
    simp [Rt.tr]
  · have HNO := Lib.hid hno
    clear hno hB GX1 TX1 BX1
    go_wp2
    go_ret
    refine ⟨acc, true, rfl, ?_, ⟨a, c, HFF.out.below (BY.out.trans ((Below.refl _ _).alloc BY.out.size _))⟩, Kp.of_below (BY.out.trans ((Below.refl _ _).alloc BY.out.size _)) (by omega)⟩
    rw [HEQ.out, if_neg HNO.out]

set_option maxRecDepth 100000 in
set_option maxHeartbeats 8000000 in
theorem each_full (sa : Option Addr) (sl sc : Nat) (ea : Option Addr) (el ec : Nat) (es : List Ed) (goal amt : Int) (f : Nat) (na : Option Addr) (n nc : Nat) (ta : Option Addr) (tl tc : Nat) (l : List Int) (s : List Stp) (acc : List Rt) (a : Option Addr) (c gl : Nat) (w : World) (hll : l.length = n) (hn0 : 0 < n) (hn : n ≤ 90) (htl : s.length = tl) (ht2 : tl ≤ 90) (hL : w.ownsRow (gl + 1) 3 1 (.slice na n nc) n (ins l)) (hS : w.ownsRow (gl + 1) 44 5 (.slice ta tl tc) tl (sflat s)) (hF : Found w gl amt acc a c) (hac : acc.length < 32) (ham : Word amt) (hw : ∀ q ∈ s, Word q.b ∧ Word q.r) (hg : lastI l ≠ goal) (h7 : tl = 7) :
    Calls Try.prog 60 #[.agg #[.slice sa sl sc, .slice ea el ec, .int .i64 goal, .int .u64 amt], .agg #[.slice na n nc, .slice ta tl tc], .func (.func 62) #[] #[.pointer (some ⟨gl, 0, none⟩)]] w (EachPost sl es goal amt 0 l s acc gl w) := by
  have HEQ : Hid (eachL sl es goal amt 0 l s (acc.map Rt.tr) = (acc.map Rt.tr, true)) := Lib.hid (by unfold eachL; rw [if_neg hg])
  obtain ⟨lst, hlst⟩ : ∃ x, lastI l = x := ⟨_, rfl⟩
  have HLA : Hid (l.getD (n - 1) 0 = lst) := Lib.hid (by rw [← hll]; exact hlst)
  rw [hlst] at hg
  have HNE := Lib.hid hg
  have H7 := Lib.hid h7
  clear hg hlst h7
  have HLL := Lib.hid hll
  have HTL := Lib.hid htl
  have HLO := Lib.hid hL
  have HSO := Lib.hid hS
  have HFF := Lib.hid hF
  have hgl := hF.var.lt
  have HAM := Lib.hid ham
  have HWW := Lib.hid hw
  have BV : Hid (Below w.heap.size w ((w.alloc (.cells #[.slice sa sl sc, .slice ea el ec, .int .i64 goal, .int .u64 amt] 117)).alloc (.cells #[.slice na n nc, .slice ta tl tc] 122))) := Lib.hid (((Below.refl _ _).alloc (Nat.le_refl _) _).alloc (by simp) _)
  have GV : Hid (Blk ((w.alloc (.cells #[.slice sa sl sc, .slice ea el ec, .int .i64 goal, .int .u64 amt] 117)).alloc (.cells #[.slice na n nc, .slice ta tl tc] 122)) w.heap.size 117 [.slice sa sl sc, .slice ea el ec, .int .i64 goal, .int .u64 amt]) := Lib.hid ((Blk.new w 117 [.slice sa sl sc, .slice ea el ec, .int .i64 goal, .int .u64 amt]).alloc _)
  have TV : Hid (Blk ((w.alloc (.cells #[.slice sa sl sc, .slice ea el ec, .int .i64 goal, .int .u64 amt] 117)).alloc (.cells #[.slice na n nc, .slice ta tl tc] 122)) (w.heap.size + 1) 122 [.slice na n nc, .slice ta tl tc]) := Lib.hid (Blk.mk_ (cs := [.slice na n nc, .slice ta tl tc]) (by simp))
  clear hll htl hL hS hF ham hw
  go_enter Try.func60, Try.ntmps60
  go_upto_region 1 with fail
  generalize ((w.alloc (.cells #[.slice sa sl sc, .slice ea el ec, .int .i64 goal, .int .u64 amt] 117)).alloc (.cells #[.slice na n nc, .slice ta tl tc] 122)) = V at BV GV TV ⊢
  have hgt9 : w.heap.size < w.heap.size + 1 := by omega
  obtain ⟨gt, hgt⟩ : ∃ g, w.heap.size + 1 = g := ⟨_, rfl⟩
  rw [hgt] at TV hgt9 ⊢
  clear hgt
  have hBz : Below V.heap.size V V.drew := below_drewN (Below.refl _ _) 1
  have GX0 : Hid (Blk V.drew w.heap.size 117 [.slice sa sl sc, .slice ea el ec, .int .i64 goal, .int .u64 amt]) := Lib.hid (GV.out.below hBz GV.out.lt)
  have TX0 : Hid (Blk V.drew gt 122 [.slice na n nc, .slice ta tl tc]) := Lib.hid (TV.out.below hBz TV.out.lt)
  have BX0 : Hid (Below w.heap.size w V.drew) := Lib.hid (BV.out.trans (hBz.mono BV.out.size))
  clear hBz
  refine wp_region_held_drew (S := fun w' => Blk w' w.heap.size 117 [.slice sa sl sc, .slice ea el ec, .int .i64 goal, .int .u64 amt] ∧ Blk w' gt 122 [.slice na n nc, .slice ta tl tc]) (by kernel_rfl) (⟨GX0.out, TX0.out⟩) (fun hHeld => ?_)
  generalize V.drew = X0 at hHeld GX0 TX0 BX0 ⊢
  refine wpAnyH_take (i := 0) (v := .agg #[.slice na n nc, .slice ta tl tc]) rfl (by kernel_rfl) (by kernel_rfl) (by kernel_rfl) (fun _ _ _ h => h) (Or.inl ⟨by rfl, by intro w' h; have k0 := Blk.cell h.2 0; have k1 := Blk.cell h.2 1; simp only [List.getElem?_cons_zero, List.getElem?_cons_succ] at k0 k1; go_simp⟩) hHeld ?_
  show wpAnyH _ _ _ _ _ _ _ (Act.put _ (some 11) _) _
  simp only [Act.put, List.setIfInBounds_toArray, List.set_cons_zero, List.set_cons_succ]
  refine wpAnyH_take (i := 2) (v := .pointer (some ⟨w.heap.size, 2, none⟩)) rfl (by kernel_rfl) (by kernel_rfl) (by kernel_rfl) (fun _ _ _ h => h) (Or.inl ⟨by rfl, by intro w' h; go_simp⟩) hHeld ?_
  show wpAnyH _ _ _ _ _ _ _ (Act.put _ (some 13) _) _
  simp only [Act.put, List.setIfInBounds_toArray, List.set_cons_zero, List.set_cons_succ]
  refine wpAnyH_take (i := 3) (v := .int .i64 goal) rfl (by kernel_rfl) (by kernel_rfl) (by kernel_rfl) (fun _ _ _ h => h) (Or.inl ⟨by rfl, by intro w' h; have k0 := Blk.cell h.1 2; simp only [List.getElem?_cons_zero, List.getElem?_cons_succ] at k0; go_simp⟩) hHeld ?_
  show wpAnyH _ _ _ _ _ _ _ (Act.put _ (some 14) _) _
  simp only [Act.put, List.setIfInBounds_toArray, List.set_cons_zero, List.set_cons_succ]
  refine wpAnyH_ready (rs := [1]) (by kernel_rfl) (by simp) ?_
  refine AllReadyH.cons rfl (fun K hK => ?_) AllReadyH.nil
  refine step_call rfl 70 #[.tmp 11] #[122] rfl #[.agg #[.slice na n nc, .slice ta tl tc]] (by simp [Act.eval]) (by go_simp) (end_any na n nc ta tl tc l X0 (irow_own (Mon.own_below HLO.out BX0.out) HLL.out) HLL.out hn0 (by omega)) ?_
  rintro e X1 ⟨rfl, hB⟩
  rw [HLA.out]
  have GX1 : Hid (Blk X1 w.heap.size 117 [.slice sa sl sc, .slice ea el ec, .int .i64 goal, .int .u64 amt]) := Lib.hid (GX0.out.below hB GX0.out.lt)
  have TX1 : Hid (Blk X1 gt 122 [.slice na n nc, .slice ta tl tc]) := Lib.hid (TX0.out.below hB TX0.out.lt)
  have BX1 : Hid (Below w.heap.size w X1) := Lib.hid (BX0.out.trans (hB.mono BX0.out.size))
  clear GX0 TX0 BX0 hB
  refine ⟨_, rfl, hK.out _ _ (⟨GX1.out, TX1.out⟩) (fun hHeld => ?_)⟩
  clear hK K
  show wpAnyH _ _ _ _ _ _ _ (Act.put _ (some 12) _) _
  simp only [Act.put, List.setIfInBounds_toArray, List.set_cons_zero, List.set_cons_succ]
  refine wpAnyH_take (i := 4) (v := .bool false) rfl (by kernel_rfl) (by kernel_rfl) (by kernel_rfl) (fun _ _ _ h => h) (Or.inl ⟨by rfl, by intro w' h; go_simp; first | done | exact HNE.out | (simp; exact HNE.out) | simpa using HNE.out⟩) hHeld ?_
  show wpAnyH _ _ _ _ _ _ _ (Act.put _ (some 15) _) _
  simp only [Act.put, List.setIfInBounds_toArray, List.set_cons_zero, List.set_cons_succ]
  refine wpAnyH_done (by kernel_rfl) ?_ _
  clear hHeld
  have t0 : X1.cell? ⟨gt, 0, none⟩ = some (.slice na n nc) := TX1.out.cell 0
  have t1 : X1.cell? ⟨gt, 1, none⟩ = some (.slice ta tl tc) := TX1.out.cell 1
  have h7 := H7.out
  subst h7
  go_wp2
  go_ret
  exact ⟨acc, true, rfl, HEQ.out, ⟨a, c, HFF.out.below BX1.out⟩, Kp.of_below BX1.out (by omega)⟩
end Go.Proofs.Ytnnimjaigciedaa
