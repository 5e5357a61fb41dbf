/-
  Which of two routes is the better one (Best's closure, 66).
-/
import Derived.Test.YtnnimjaigciedaaM15
namespace Go.Proofs.Ytnnimjaigciedaa
open Go.RowKit
set_option linter.unusedVariables false

section
variable {ops : Array Oper} {o : Oper} {a : Act} {w : World} {K : Act → World → Prop} {Q : Exit → Act → World → Prop} {E : Prop}
theorem step_int2 (hw : Region.wanted o (yielded ops a.tmps) = true) (k j : Nat) (ho : o.op = .buildSlice 58 2 #[(0, .tmp k), (1, .tmp j)]) (x y : Int) (hs : a.eval (.tmp k) = .int .i64 x) (ht : a.eval (.tmp j) = .int .i64 y)
    (h : ∀ Y g, Below w.heap.size w Y → Blk Y g 3 [.int .i64 x, .int .i64 y] → w.heap.size ≤ g → K (a.put o.dst (.slice (some ⟨g, 0, none⟩) 2 2)) Y) :
    if Region.wanted o (yielded ops a.tmps) = true then Oper.wp Try.prog o a w K Q else E :=
  step_lay hw 58 2 _ ho #[(0, .int .i64 x), (1, .int .i64 y)] (by simp [hs, ht]) _ (w.alloc (.cells #[.int .i64 x, .int .i64 y] 3)) (by kernel_rfl) (h _ _ ((Below.refl _ _).alloc (Nat.le_refl _) _) (Blk.new w 3 [.int .i64 x, .int .i64 y]) (Nat.le_refl _))
end

set_option maxRecDepth 100000 in
set_option maxHeartbeats 8000000 in
theorem less_any (na ga na2 ga2 : Option Addr) (n nc m1 gc k1 ac n2 nc2 m2 gc2 k2 ac2 b1 o1 b2 o2 : Nat) (x y : Int) (w : World) (h1 : w.cell? ⟨b1, o1, none⟩ = some (.int .u64 x)) (h2 : w.cell? ⟨b2, o2, none⟩ = some (.int .u64 y)) (hk1 : 0 < k1) (hk2 : 0 < k2) :
    Calls Try.prog 66 #[.agg #[.slice na n nc, .slice ga m1 gc, .slice (some ⟨b1, o1, none⟩) k1 ac], .agg #[.slice na2 n2 nc2, .slice ga2 m2 gc2, .slice (some ⟨b2, o2, none⟩) k2 ac2]] w fun e w' => e = .returned (.int .i64 (orE (cmpE x y) (cmpE (m1 : Int) (m2 : Int)))) ∧ Below w.heap.size w w' := by
  have BV : Hid (Below w.heap.size w ((w.alloc (.cells #[.slice na n nc, .slice ga m1 gc, .slice (some ⟨b1, o1, none⟩) k1 ac] 89)).alloc (.cells #[.slice na2 n2 nc2, .slice ga2 m2 gc2, .slice (some ⟨b2, o2, none⟩) k2 ac2] 89))) := Lib.hid (((Below.refl _ _).alloc (Nat.le_refl _) _).alloc (by simp) _)
  have P0 : Hid (Blk ((w.alloc (.cells #[.slice na n nc, .slice ga m1 gc, .slice (some ⟨b1, o1, none⟩) k1 ac] 89)).alloc (.cells #[.slice na2 n2 nc2, .slice ga2 m2 gc2, .slice (some ⟨b2, o2, none⟩) k2 ac2] 89)) w.heap.size 89 [.slice na n nc, .slice ga m1 gc, .slice (some ⟨b1, o1, none⟩) k1 ac]) := Lib.hid ((Blk.new w 89 [.slice na n nc, .slice ga m1 gc, .slice (some ⟨b1, o1, none⟩) k1 ac]).alloc _)
  have Q0 : Hid (Blk ((w.alloc (.cells #[.slice na n nc, .slice ga m1 gc, .slice (some ⟨b1, o1, none⟩) k1 ac] 89)).alloc (.cells #[.slice na2 n2 nc2, .slice ga2 m2 gc2, .slice (some ⟨b2, o2, none⟩) k2 ac2] 89)) (w.heap.size + 1) 89 [.slice na2 n2 nc2, .slice ga2 m2 gc2, .slice (some ⟨b2, o2, none⟩) k2 ac2]) := Lib.hid (Blk.mk_ (cs := [.slice na2 n2 nc2, .slice ga2 m2 gc2, .slice (some ⟨b2, o2, none⟩) k2 ac2]) (by simp))
  have CV : Hid (((w.alloc (.cells #[.slice na n nc, .slice ga m1 gc, .slice (some ⟨b1, o1, none⟩) k1 ac] 89)).alloc (.cells #[.slice na2 n2 nc2, .slice ga2 m2 gc2, .slice (some ⟨b2, o2, none⟩) k2 ac2] 89)).cell? ⟨b1, o1, none⟩ = some (.int .u64 x)) := Lib.hid ((BV.out.cell (p := ⟨b1, o1, none⟩) (World.block_lt_of_cell? _ _ h1)).trans h1)
  have DV : Hid (((w.alloc (.cells #[.slice na n nc, .slice ga m1 gc, .slice (some ⟨b1, o1, none⟩) k1 ac] 89)).alloc (.cells #[.slice na2 n2 nc2, .slice ga2 m2 gc2, .slice (some ⟨b2, o2, none⟩) k2 ac2] 89)).cell? ⟨b2, o2, none⟩ = some (.int .u64 y)) := Lib.hid ((BV.out.cell (p := ⟨b2, o2, none⟩) (World.block_lt_of_cell? _ _ h2)).trans h2)
  have hkI1 : (0 : Int) < (k1 : Int) := by omega
  have hkI2 : (0 : Int) < (k2 : Int) := by omega
  clear h1 h2
  go_enter Try.func66, Try.ntmps66
  go_upto_region 1 with fail
  generalize ((w.alloc (.cells #[.slice na n nc, .slice ga m1 gc, .slice (some ⟨b1, o1, none⟩) k1 ac] 89)).alloc (.cells #[.slice na2 n2 nc2, .slice ga2 m2 gc2, .slice (some ⟨b2, o2, none⟩) k2 ac2] 89)) = V at BV P0 Q0 CV DV ⊢
  obtain ⟨gq, hgq⟩ : ∃ g, w.heap.size + 1 = g := ⟨_, rfl⟩
  rw [hgq] at Q0 ⊢
  clear hgq
  have PV := P0
  have QV := Q0
  clear P0 Q0
  have hBz : Below V.heap.size V V.drew := below_drewN (Below.refl _ _) 1
  have PX0 : Hid (Blk V.drew w.heap.size 89 [.slice na n nc, .slice ga m1 gc, .slice (some ⟨b1, o1, none⟩) k1 ac]) := Lib.hid (PV.out.below hBz PV.out.lt)
  have QX0 : Hid (Blk V.drew gq 89 [.slice na2 n2 nc2, .slice ga2 m2 gc2, .slice (some ⟨b2, o2, none⟩) k2 ac2]) := Lib.hid (QV.out.below hBz QV.out.lt)
  have CX0 : Hid (V.drew.cell? ⟨b1, o1, none⟩ = some (.int .u64 x)) := Lib.hid ((hBz.cell (p := ⟨b1, o1, none⟩) (World.block_lt_of_cell? _ _ CV.out)).trans CV.out)
  have DX0 : Hid (V.drew.cell? ⟨b2, o2, none⟩ = some (.int .u64 y)) := Lib.hid ((hBz.cell (p := ⟨b2, o2, none⟩) (World.block_lt_of_cell? _ _ DV.out)).trans DV.out)
  have BX0 : Hid (Below w.heap.size w V.drew) := Lib.hid (BV.out.trans (hBz.mono BV.out.size))
  clear hBz
  refine wp_region_held_drew (S := fun w' => Blk w' w.heap.size 89 [.slice na n nc, .slice ga m1 gc, .slice (some ⟨b1, o1, none⟩) k1 ac] ∧ Blk w' gq 89 [.slice na2 n2 nc2, .slice ga2 m2 gc2, .slice (some ⟨b2, o2, none⟩) k2 ac2] ∧ w'.cell? ⟨b1, o1, none⟩ = some (.int .u64 x) ∧ w'.cell? ⟨b2, o2, none⟩ = some (.int .u64 y)) (by kernel_rfl) (⟨PX0.out, QX0.out, CX0.out, DX0.out⟩) (fun hHeld => ?_)
  generalize V.drew = X0 at hHeld PX0 QX0 CX0 DX0 BX0 ⊢
  refine wpAnyH_take (i := 0) (v := .pointer (some ⟨w.heap.size, 2, none⟩)) rfl (by kernel_rfl) (by kernel_rfl) (by kernel_rfl) (fun _ _ _ h => h) (Or.inl ⟨by rfl, by intro w' h; go_simp⟩) hHeld ?_
  show wpAnyH _ _ _ _ _ _ _ (Act.put _ (some 5) _) _
  simp only [Act.put, List.setIfInBounds_toArray, List.set_cons_zero, List.set_cons_succ]
  refine wpAnyH_take (i := 1) (v := .slice (some ⟨b1, o1, none⟩) k1 ac) rfl (by kernel_rfl) (by kernel_rfl) (by kernel_rfl) (fun _ _ _ h => h) (Or.inl ⟨by rfl, by intro w' h; have k0 := Blk.cell h.1 0; have k1 := Blk.cell h.1 1; have k2 := Blk.cell h.1 2; simp only [List.getElem?_cons_zero, List.getElem?_cons_succ] at k0 k1 k2; go_simp⟩) hHeld ?_
  show wpAnyH _ _ _ _ _ _ _ (Act.put _ (some 6) _) _
  simp only [Act.put, List.setIfInBounds_toArray, List.set_cons_zero, List.set_cons_succ]
  refine wpAnyH_take (i := 2) (v := .pointer (some ⟨b1, o1, none⟩)) rfl (by kernel_rfl) (by kernel_rfl) (by kernel_rfl) (fun _ _ _ h => h) (Or.inl ⟨by rfl, by intro w' h; go_simp⟩) hHeld ?_
  show wpAnyH _ _ _ _ _ _ _ (Act.put _ (some 7) _) _
  simp only [Act.put, List.setIfInBounds_toArray, List.set_cons_zero, List.set_cons_succ]
  refine wpAnyH_take (i := 3) (v := .int .u64 x) rfl (by kernel_rfl) (by kernel_rfl) (by kernel_rfl) (fun _ _ _ h => h) (Or.inl ⟨by rfl, by intro w' h; have q9 := h.2.2.1; go_simp⟩) hHeld ?_
  show wpAnyH _ _ _ _ _ _ _ (Act.put _ (some 8) _) _
  simp only [Act.put, List.setIfInBounds_toArray, List.set_cons_zero, List.set_cons_succ]
  refine wpAnyH_take (i := 4) (v := .pointer (some ⟨gq, 2, none⟩)) rfl (by kernel_rfl) (by kernel_rfl) (by kernel_rfl) (fun _ _ _ h => h) (Or.inl ⟨by rfl, by intro w' h; go_simp⟩) hHeld ?_
  show wpAnyH _ _ _ _ _ _ _ (Act.put _ (some 9) _) _
  simp only [Act.put, List.setIfInBounds_toArray, List.set_cons_zero, List.set_cons_succ]
  refine wpAnyH_take (i := 5) (v := .slice (some ⟨b2, o2, none⟩) k2 ac2) rfl (by kernel_rfl) (by kernel_rfl) (by kernel_rfl) (fun _ _ _ h => h) (Or.inl ⟨by rfl, by intro w' h; have k0 := Blk.cell h.2.1 0; have k1 := Blk.cell h.2.1 1; have k2 := Blk.cell h.2.1 2; simp only [List.getElem?_cons_zero, List.getElem?_cons_succ] at k0 k1 k2; go_simp⟩) hHeld ?_
  show wpAnyH _ _ _ _ _ _ _ (Act.put _ (some 10) _) _
  simp only [Act.put, List.setIfInBounds_toArray, List.set_cons_zero, List.set_cons_succ]
  refine wpAnyH_take (i := 6) (v := .pointer (some ⟨b2, o2, none⟩)) rfl (by kernel_rfl) (by kernel_rfl) (by kernel_rfl) (fun _ _ _ h => h) (Or.inl ⟨by rfl, by intro w' h; go_simp⟩) hHeld ?_
  show wpAnyH _ _ _ _ _ _ _ (Act.put _ (some 11) _) _
  simp only [Act.put, List.setIfInBounds_toArray, List.set_cons_zero, List.set_cons_succ]
  refine wpAnyH_take (i := 7) (v := .int .u64 y) rfl (by kernel_rfl) (by kernel_rfl) (by kernel_rfl) (fun _ _ _ h => h) (Or.inl ⟨by rfl, by intro w' h; have q9 := h.2.2.2; go_simp⟩) hHeld ?_
  show wpAnyH _ _ _ _ _ _ _ (Act.put _ (some 12) _) _
  simp only [Act.put, List.setIfInBounds_toArray, List.set_cons_zero, List.set_cons_succ]
  refine wpAnyH_take (i := 9) (v := .agg #[.slice na n nc, .slice ga m1 gc, .slice (some ⟨b1, o1, none⟩) k1 ac]) rfl (by kernel_rfl) (by kernel_rfl) (by kernel_rfl) (fun _ _ _ h => h) (Or.inl ⟨by rfl, by intro w' h; have k0 := Blk.cell h.1 0; have k1 := Blk.cell h.1 1; have k2 := Blk.cell h.1 2; simp only [List.getElem?_cons_zero, List.getElem?_cons_succ] at k0 k1 k2; go_simp⟩) hHeld ?_
  show wpAnyH _ _ _ _ _ _ _ (Act.put _ (some 14) _) _
  simp only [Act.put, List.setIfInBounds_toArray, List.set_cons_zero, List.set_cons_succ]
  refine wpAnyH_take (i := 11) (v := .agg #[.slice na2 n2 nc2, .slice ga2 m2 gc2, .slice (some ⟨b2, o2, none⟩) k2 ac2]) rfl (by kernel_rfl) (by kernel_rfl) (by kernel_rfl) (fun _ _ _ h => h) (Or.inl ⟨by rfl, by intro w' h; have k0 := Blk.cell h.2.1 0; have k1 := Blk.cell h.2.1 1; have k2 := Blk.cell h.2.1 2; simp only [List.getElem?_cons_zero, List.getElem?_cons_succ] at k0 k1 k2; go_simp⟩) hHeld ?_
  show wpAnyH _ _ _ _ _ _ _ (Act.put _ (some 16) _) _
  simp only [Act.put, List.setIfInBounds_toArray, List.set_cons_zero, List.set_cons_succ]
  refine wpAnyH_ready (rs := [8]) (by kernel_rfl) (by simp) ?_
  refine AllReadyH.cons rfl (fun K hK => ?_) AllReadyH.nil
  refine step_call rfl 68 #[.tmp 8, .tmp 12] #[40, 40] rfl #[.int .u64 x, .int .u64 y] (by simp [Act.eval]) (by go_simp) (cmp40 x y X0) ?_
  rintro e X1 ⟨rfl, hB⟩
  have PX1 : Hid (Blk X1 w.heap.size 89 [.slice na n nc, .slice ga m1 gc, .slice (some ⟨b1, o1, none⟩) k1 ac]) := Lib.hid (PX0.out.below hB PX0.out.lt)
  have QX1 : Hid (Blk X1 gq 89 [.slice na2 n2 nc2, .slice ga2 m2 gc2, .slice (some ⟨b2, o2, none⟩) k2 ac2]) := Lib.hid (QX0.out.below hB QX0.out.lt)
  have CX1 : Hid (X1.cell? ⟨b1, o1, none⟩ = some (.int .u64 x)) := Lib.hid ((hB.cell (p := ⟨b1, o1, none⟩) (World.block_lt_of_cell? _ _ CX0.out)).trans CX0.out)
  have DX1 : Hid (X1.cell? ⟨b2, o2, none⟩ = some (.int .u64 y)) := Lib.hid ((hB.cell (p := ⟨b2, o2, none⟩) (World.block_lt_of_cell? _ _ DX0.out)).trans DX0.out)
  have BX1 : Hid (Below w.heap.size w X1) := Lib.hid (BX0.out.trans (hB.mono BX0.out.size))
  clear PX0 QX0 CX0 DX0 BX0 hB
  refine ⟨_, rfl, hK.out _ _ (⟨PX1.out, QX1.out, CX1.out, DX1.out⟩) (fun hHeld => ?_)⟩
  clear hK K
  show wpAnyH _ _ _ _ _ _ _ (Act.put _ (some 13) _) _
  simp only [Act.put, List.setIfInBounds_toArray, List.set_cons_zero, List.set_cons_succ]
  refine wpAnyH_ready (rs := [10]) (by kernel_rfl) (by simp) ?_
  refine AllReadyH.cons rfl (fun K hK => ?_) AllReadyH.nil
  refine step_call rfl 44 #[.tmp 14] #[89] rfl #[.agg #[.slice na n nc, .slice ga m1 gc, .slice (some ⟨b1, o1, none⟩) k1 ac]] (by simp [Act.eval]) (by go_simp) (long_any na ga (some ⟨b1, o1, none⟩) n nc m1 gc k1 ac X1) ?_
  rintro e X2 ⟨rfl, hB⟩
  have PX2 : Hid (Blk X2 w.heap.size 89 [.slice na n nc, .slice ga m1 gc, .slice (some ⟨b1, o1, none⟩) k1 ac]) := Lib.hid (PX1.out.below hB PX1.out.lt)
  have QX2 : Hid (Blk X2 gq 89 [.slice na2 n2 nc2, .slice ga2 m2 gc2, .slice (some ⟨b2, o2, none⟩) k2 ac2]) := Lib.hid (QX1.out.below hB QX1.out.lt)
  have CX2 : Hid (X2.cell? ⟨b1, o1, none⟩ = some (.int .u64 x)) := Lib.hid ((hB.cell (p := ⟨b1, o1, none⟩) (World.block_lt_of_cell? _ _ CX1.out)).trans CX1.out)
  have DX2 : Hid (X2.cell? ⟨b2, o2, none⟩ = some (.int .u64 y)) := Lib.hid ((hB.cell (p := ⟨b2, o2, none⟩) (World.block_lt_of_cell? _ _ DX1.out)).trans DX1.out)
  have BX2 : Hid (Below w.heap.size w X2) := Lib.hid (BX1.out.trans (hB.mono BX1.out.size))
  clear PX1 QX1 CX1 DX1 BX1 hB
  refine ⟨_, rfl, hK.out _ _ (⟨PX2.out, QX2.out, CX2.out, DX2.out⟩) (fun hHeld => ?_)⟩
  clear hK K
  show wpAnyH _ _ _ _ _ _ _ (Act.put _ (some 15) _) _
  simp only [Act.put, List.setIfInBounds_toArray, List.set_cons_zero, List.set_cons_succ]
  refine wpAnyH_ready (rs := [12]) (by kernel_rfl) (by simp) ?_
  refine AllReadyH.cons rfl (fun K hK => ?_) AllReadyH.nil
  refine step_call rfl 44 #[.tmp 16] #[89] rfl #[.agg #[.slice na2 n2 nc2, .slice ga2 m2 gc2, .slice (some ⟨b2, o2, none⟩) k2 ac2]] (by simp [Act.eval]) (by go_simp) (long_any na2 ga2 (some ⟨b2, o2, none⟩) n2 nc2 m2 gc2 k2 ac2 X2) ?_
  rintro e X3 ⟨rfl, hB⟩
  have PX3 : Hid (Blk X3 w.heap.size 89 [.slice na n nc, .slice ga m1 gc, .slice (some ⟨b1, o1, none⟩) k1 ac]) := Lib.hid (PX2.out.below hB PX2.out.lt)
  have QX3 : Hid (Blk X3 gq 89 [.slice na2 n2 nc2, .slice ga2 m2 gc2, .slice (some ⟨b2, o2, none⟩) k2 ac2]) := Lib.hid (QX2.out.below hB QX2.out.lt)
  have CX3 : Hid (X3.cell? ⟨b1, o1, none⟩ = some (.int .u64 x)) := Lib.hid ((hB.cell (p := ⟨b1, o1, none⟩) (World.block_lt_of_cell? _ _ CX2.out)).trans CX2.out)
  have DX3 : Hid (X3.cell? ⟨b2, o2, none⟩ = some (.int .u64 y)) := Lib.hid ((hB.cell (p := ⟨b2, o2, none⟩) (World.block_lt_of_cell? _ _ DX2.out)).trans DX2.out)
  have BX3 : Hid (Below w.heap.size w X3) := Lib.hid (BX2.out.trans (hB.mono BX2.out.size))
  clear PX2 QX2 CX2 DX2 BX2 hB
  refine ⟨_, rfl, hK.out _ _ (⟨PX3.out, QX3.out, CX3.out, DX3.out⟩) (fun hHeld => ?_)⟩
  clear hK K
  show wpAnyH _ _ _ _ _ _ _ (Act.put _ (some 17) _) _
  simp only [Act.put, List.setIfInBounds_toArray, List.set_cons_zero, List.set_cons_succ]
  refine wpAnyH_ready (rs := [13]) (by kernel_rfl) (by simp) ?_
  refine AllReadyH.cons rfl (fun K hK => ?_) AllReadyH.nil
  refine step_call rfl 69 #[.tmp 15, .tmp 17] #[3, 3] rfl #[.int .i64 (m1 : Int), .int .i64 (m2 : Int)] (by simp [Act.eval]) (by go_simp) (cmp3 (m1 : Int) (m2 : Int) X3) ?_
  rintro e X4 ⟨rfl, hB⟩
  have PX4 : Hid (Blk X4 w.heap.size 89 [.slice na n nc, .slice ga m1 gc, .slice (some ⟨b1, o1, none⟩) k1 ac]) := Lib.hid (PX3.out.below hB PX3.out.lt)
  have QX4 : Hid (Blk X4 gq 89 [.slice na2 n2 nc2, .slice ga2 m2 gc2, .slice (some ⟨b2, o2, none⟩) k2 ac2]) := Lib.hid (QX3.out.below hB QX3.out.lt)
  have CX4 : Hid (X4.cell? ⟨b1, o1, none⟩ = some (.int .u64 x)) := Lib.hid ((hB.cell (p := ⟨b1, o1, none⟩) (World.block_lt_of_cell? _ _ CX3.out)).trans CX3.out)
  have DX4 : Hid (X4.cell? ⟨b2, o2, none⟩ = some (.int .u64 y)) := Lib.hid ((hB.cell (p := ⟨b2, o2, none⟩) (World.block_lt_of_cell? _ _ DX3.out)).trans DX3.out)
  have BX4 : Hid (Below w.heap.size w X4) := Lib.hid (BX3.out.trans (hB.mono BX3.out.size))
  clear PX3 QX3 CX3 DX3 BX3 hB
  refine ⟨_, rfl, hK.out _ _ (⟨PX4.out, QX4.out, CX4.out, DX4.out⟩) (fun hHeld => ?_)⟩
  clear hK K
  show wpAnyH _ _ _ _ _ _ _ (Act.put _ (some 18) _) _
  simp only [Act.put, List.setIfInBounds_toArray, List.set_cons_zero, List.set_cons_succ]
  refine wpAnyH_ready (rs := [14]) (by kernel_rfl) (by simp) ?_
  refine AllReadyH.cons rfl (fun K hK => ?_) AllReadyH.nil
  refine step_int2 rfl 13 18 rfl (cmpE x y) (cmpE (m1 : Int) (m2 : Int)) rfl rfl ?_
  intro X5 gn hB hN hg
  have PX5 : Hid (Blk X5 w.heap.size 89 [.slice na n nc, .slice ga m1 gc, .slice (some ⟨b1, o1, none⟩) k1 ac]) := Lib.hid (PX4.out.below hB PX4.out.lt)
  have QX5 : Hid (Blk X5 gq 89 [.slice na2 n2 nc2, .slice ga2 m2 gc2, .slice (some ⟨b2, o2, none⟩) k2 ac2]) := Lib.hid (QX4.out.below hB QX4.out.lt)
  have CX5 : Hid (X5.cell? ⟨b1, o1, none⟩ = some (.int .u64 x)) := Lib.hid ((hB.cell (p := ⟨b1, o1, none⟩) (World.block_lt_of_cell? _ _ CX4.out)).trans CX4.out)
  have DX5 : Hid (X5.cell? ⟨b2, o2, none⟩ = some (.int .u64 y)) := Lib.hid ((hB.cell (p := ⟨b2, o2, none⟩) (World.block_lt_of_cell? _ _ DX4.out)).trans DX4.out)
  have BX5 : Hid (Below w.heap.size w X5) := Lib.hid (BX4.out.trans (hB.mono BX4.out.size))
  have NX5 : Hid (Blk X5 gn 3 [.int .i64 (cmpE x y), .int .i64 (cmpE (m1 : Int) (m2 : Int))]) := Lib.hid (hN)
  clear hN hg
  clear PX4 QX4 CX4 DX4 BX4 hB
  refine hK.out _ _ (⟨PX5.out, QX5.out, CX5.out, DX5.out⟩) (fun hHeld => ?_)
  clear hK K
  show wpAnyH _ _ _ _ _ _ _ (Act.put _ (some 19) _) _
  simp only [Act.put, List.setIfInBounds_toArray, List.set_cons_zero, List.set_cons_succ]
  refine wpAnyH_ready (rs := [15]) (by kernel_rfl) (by simp) ?_
  refine AllReadyH.cons rfl (fun K hK => ?_) AllReadyH.nil
  refine step_call rfl 67 #[.tmp 19] #[58] rfl #[.slice (some ⟨gn, 0, none⟩) 2 2] (by simp [Act.eval]) (by go_simp) (or_any gn (cmpE x y) (cmpE (m1 : Int) (m2 : Int)) X5 NX5.out) ?_
  rintro e X6 ⟨rfl, hB⟩
  have PX6 : Hid (Blk X6 w.heap.size 89 [.slice na n nc, .slice ga m1 gc, .slice (some ⟨b1, o1, none⟩) k1 ac]) := Lib.hid (PX5.out.below hB PX5.out.lt)
  have QX6 : Hid (Blk X6 gq 89 [.slice na2 n2 nc2, .slice ga2 m2 gc2, .slice (some ⟨b2, o2, none⟩) k2 ac2]) := Lib.hid (QX5.out.below hB QX5.out.lt)
  have CX6 : Hid (X6.cell? ⟨b1, o1, none⟩ = some (.int .u64 x)) := Lib.hid ((hB.cell (p := ⟨b1, o1, none⟩) (World.block_lt_of_cell? _ _ CX5.out)).trans CX5.out)
  have DX6 : Hid (X6.cell? ⟨b2, o2, none⟩ = some (.int .u64 y)) := Lib.hid ((hB.cell (p := ⟨b2, o2, none⟩) (World.block_lt_of_cell? _ _ DX5.out)).trans DX5.out)
  have BX6 : Hid (Below w.heap.size w X6) := Lib.hid (BX5.out.trans (hB.mono BX5.out.size))
  have NX6 : Hid (Blk X6 gn 3 [.int .i64 (cmpE x y), .int .i64 (cmpE (m1 : Int) (m2 : Int))]) := Lib.hid (NX5.out.below hB NX5.out.lt)
  clear PX5 QX5 CX5 DX5 BX5 NX5 hB
  refine ⟨_, rfl, hK.out _ _ (⟨PX6.out, QX6.out, CX6.out, DX6.out⟩) (fun hHeld => ?_)⟩
  clear hK K
  show wpAnyH _ _ _ _ _ _ _ (Act.put _ (some 20) _) _
  simp only [Act.put, List.setIfInBounds_toArray, List.set_cons_zero, List.set_cons_succ]
  refine wpAnyH_take (i := 16) (v := .int .i64 (orE (cmpE x y) (cmpE (m1 : Int) (m2 : Int)))) rfl (by kernel_rfl) (by kernel_rfl) (by kernel_rfl) (fun _ _ _ h => h) (Or.inl ⟨by rfl, fun w _ => by rfl⟩) hHeld ?_
  show wpAnyH _ _ _ _ _ _ _ (Act.put _ (some 4) _) _
  simp only [Act.put, List.setIfInBounds_toArray, List.set_cons_zero, List.set_cons_succ]
  refine wpAnyH_done (by kernel_rfl) ?_ _
  clear hHeld
  go_wp2
  go_ret
  exact ⟨rfl, BX6.out⟩
end Go.Proofs.Ytnnimjaigciedaa
