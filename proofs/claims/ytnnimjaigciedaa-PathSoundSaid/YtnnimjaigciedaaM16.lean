/-
  What all between ask together (Fees, 45); awake's web, in numbers.
  path's awake (33).
-/
import Derived.Test.YtnnimjaigciedaaPathS
import Derived.Test.YtnnimjaigciedaaM06
namespace Go.Proofs.Ytnnimjaigciedaa
open Go.RowKit
set_option linter.unusedVariables false

instance : DecidableEq Stp := fun a b => decidable_of_iff (a.e = b.e ∧ a.t = b.t ∧ a.c = b.c ∧ a.b = b.b ∧ a.r = b.r) (by cases a; cases b; simp)
def ew1 : Ed := ⟨0, 1, 9, 0, 0, 0, 0, 0⟩
def ew2 : Ed := ⟨1, 2, 9, 0, 1, 0, 0, 0⟩
theorem aw_seek : seekE 3 [ew1, ew2] 0 2 5 = 0 := by decide +kernel
theorem aw_best : bestL 5 (wayL 3 [ew1, ew2] 0 2 5) = ([0, 1, 2], [⟨0, 1, 9, 0, 0⟩, ⟨1, 2, 9, 1, 0⟩]) := by decide +kernel
theorem aw_amts : amtsE 5 [⟨0, 1, 9, 0, 0⟩, ⟨1, 2, 9, 1, 0⟩] = (0, [6, 5]) := by decide +kernel
theorem aw_some : wayL 3 [ew1, ew2] 0 2 5 ≠ [] := by decide +kernel

set_option maxRecDepth 100000 in
set_option maxHeartbeats 4000000 in
theorem rfees_any (na ga : Option Addr) (n nc m gc b k j ac : Nat) (x y : Int) (w : World) (hkj : k = j + 1) (hk : k ≤ 100) (hx : Word x) (hy : Word y) (h1 : w.cell? ⟨b, 0, none⟩ = some (.int .u64 x)) (h2 : w.cell? ⟨b, j, none⟩ = some (.int .u64 y)) :
    Calls Try.prog 45 #[.agg #[.slice na n nc, .slice ga m gc, .slice (some ⟨b, 0, none⟩) k ac]] w fun e w' => e = .returned (.int .u64 (subV x y)) ∧ Below w.heap.size w w' := by
  have BV : Below w.heap.size w (w.alloc (.cells #[.slice na n nc, .slice ga m gc, .slice (some ⟨b, 0, none⟩) k ac] 89)) := (Below.refl _ _).alloc (Nat.le_refl _) _
  have c0 : (w.alloc (.cells #[.slice na n nc, .slice ga m gc, .slice (some ⟨b, 0, none⟩) k ac] 89)).cell? ⟨b, 0, none⟩ = some (.int .u64 x) := (BV.cell (p := ⟨b, 0, none⟩) (World.block_lt_of_cell? _ _ h1)).trans h1
  have c1 : (w.alloc (.cells #[.slice na n nc, .slice ga m gc, .slice (some ⟨b, 0, none⟩) k ac] 89)).cell? ⟨b, j, none⟩ = some (.int .u64 y) := (BV.cell (p := ⟨b, j, none⟩) (World.block_lt_of_cell? _ _ h2)).trans h2
  have p2 : (w.alloc (.cells #[.slice na n nc, .slice ga m gc, .slice (some ⟨b, 0, none⟩) k ac] 89)).cell? ⟨w.heap.size, 2, none⟩ = some (.slice (some ⟨b, 0, none⟩) k ac) := (Blk.new w 89 [.slice na n nc, .slice ga m gc, .slice (some ⟨b, 0, none⟩) k ac]).cell 2
  have PV : Hid (Blk (w.alloc (.cells #[.slice na n nc, .slice ga m gc, .slice (some ⟨b, 0, none⟩) k ac] 89)) w.heap.size 89 [.slice na n nc, .slice ga m gc, .slice (some ⟨b, 0, none⟩) k ac]) := Lib.hid (Blk.new w 89 [.slice na n nc, .slice ga m gc, .slice (some ⟨b, 0, none⟩) k ac])
  have CV := Lib.hid c0
  have DV := Lib.hid c1
  have BV := Lib.hid BV
  have HXY := Lib.hid (And.intro hx hy)
  have q1 : IntKind.i64.wrap (j : Int) = (j : Int) := IntWalk.i64_in _ ⟨by omega, by omega⟩
  have q2 : (k : Int) - 1 = (j : Int) := by omega
  have q3 : (j : Int) < (k : Int) := by omega
  have q4 : (0 : Int) < (k : Int) := by omega
  have q5 : 0 < k := by omega
  have q6 : j < k := by omega
  have d0 : ((k : Int) == 0) = false := by simp; omega
  have d1 : decide ((k : Int) = 0) = false := decide_eq_false (by omega)
  have HQ := Lib.hid (And.intro q1 q2)
  clear h1 h2 hkj hx hy q1 q2
  go_enter Try.func45, Try.ntmps45
  go_upto_region 3 with fail
  clear d0 d1 c0 c1 p2
  generalize w.alloc (.cells #[.slice na n nc, .slice ga m gc, .slice (some ⟨b, 0, none⟩) k ac] 89) = V at PV CV DV BV ⊢
  have hBz : Below V.heap.size V V.drew := below_drewN (Below.refl _ _) 1
  have PX0 : Hid (Blk V.drew w.heap.size 89 [.slice na n nc, .slice ga m gc, .slice (some ⟨b, 0, none⟩) k ac]) := Lib.hid (PV.out.below hBz PV.out.lt)
  have CX0 : Hid (V.drew.cell? ⟨b, 0, none⟩ = some (.int .u64 x)) := Lib.hid ((hBz.cell (p := ⟨b, 0, none⟩) (World.block_lt_of_cell? _ _ CV.out)).trans CV.out)
  have DX0 : Hid (V.drew.cell? ⟨b, j, none⟩ = some (.int .u64 y)) := Lib.hid ((hBz.cell (p := ⟨b, j, none⟩) (World.block_lt_of_cell? _ _ DV.out)).trans DV.out)
  have BX0 : Hid (Below w.heap.size w V.drew) := Lib.hid (BV.out.trans (hBz.mono BV.out.size))
  clear hBz
  refine wp_region_held_drew (S := fun w' => Blk w' w.heap.size 89 [.slice na n nc, .slice ga m gc, .slice (some ⟨b, 0, none⟩) k ac] ∧ w'.cell? ⟨b, 0, none⟩ = some (.int .u64 x) ∧ w'.cell? ⟨b, j, none⟩ = some (.int .u64 y)) (by kernel_rfl) (⟨PX0.out, CX0.out, DX0.out⟩) (fun hHeld => ?_)
  generalize V.drew = X0 at hHeld PX0 CX0 DX0 BX0 ⊢
  refine wpAnyH_take (i := 0) (v := .pointer (some ⟨w.heap.size, 2, none⟩)) rfl (by kernel_rfl) (by kernel_rfl) (by kernel_rfl) (fun _ _ _ h => h) (Or.inl ⟨by rfl, by intro w' h; go_simp⟩) hHeld ?_
  show wpAnyH _ _ _ _ _ _ _ (Act.put _ (some 10) _) _
  simp only [Act.put, List.setIfInBounds_toArray, List.set_cons_zero, List.set_cons_succ]
  refine wpAnyH_take (i := 1) (v := .slice (some ⟨b, 0, none⟩) k ac) rfl (by kernel_rfl) (by kernel_rfl) (by kernel_rfl) (fun _ _ _ h => h) (Or.inl ⟨by rfl, by intro w' h; have k0 := Blk.cell h.1 2; simp only [List.getElem?_cons_zero, List.getElem?_cons_succ] at k0; go_simp⟩) hHeld ?_
  show wpAnyH _ _ _ _ _ _ _ (Act.put _ (some 11) _) _
  simp only [Act.put, List.setIfInBounds_toArray, List.set_cons_zero, List.set_cons_succ]
  refine wpAnyH_take (i := 2) (v := .pointer (some ⟨b, 0, none⟩)) rfl (by kernel_rfl) (by kernel_rfl) (by kernel_rfl) (fun _ _ _ h => h) (Or.inl ⟨by rfl, by intro w' h; go_simp⟩) hHeld ?_
  show wpAnyH _ _ _ _ _ _ _ (Act.put _ (some 12) _) _
  simp only [Act.put, List.setIfInBounds_toArray, List.set_cons_zero, List.set_cons_succ]
  refine wpAnyH_take (i := 3) (v := .int .u64 x) rfl (by kernel_rfl) (by kernel_rfl) (by kernel_rfl) (fun _ _ _ h => h) (Or.inl ⟨by rfl, by intro w' h; have q9 := h.2.1; go_simp⟩) hHeld ?_
  show wpAnyH _ _ _ _ _ _ _ (Act.put _ (some 13) _) _
  simp only [Act.put, List.setIfInBounds_toArray, List.set_cons_zero, List.set_cons_succ]
  refine wpAnyH_take (i := 4) (v := .pointer (some ⟨w.heap.size, 2, none⟩)) rfl (by kernel_rfl) (by kernel_rfl) (by kernel_rfl) (fun _ _ _ h => h) (Or.inl ⟨by rfl, by intro w' h; go_simp⟩) hHeld ?_
  show wpAnyH _ _ _ _ _ _ _ (Act.put _ (some 14) _) _
  simp only [Act.put, List.setIfInBounds_toArray, List.set_cons_zero, List.set_cons_succ]
  refine wpAnyH_take (i := 5) (v := .slice (some ⟨b, 0, none⟩) k ac) rfl (by kernel_rfl) (by kernel_rfl) (by kernel_rfl) (fun _ _ _ h => h) (Or.inl ⟨by rfl, by intro w' h; have k0 := Blk.cell h.1 2; simp only [List.getElem?_cons_zero, List.getElem?_cons_succ] at k0; go_simp⟩) hHeld ?_
  show wpAnyH _ _ _ _ _ _ _ (Act.put _ (some 15) _) _
  simp only [Act.put, List.setIfInBounds_toArray, List.set_cons_zero, List.set_cons_succ]
  refine wpAnyH_take (i := 6) (v := .pointer (some ⟨w.heap.size, 2, none⟩)) rfl (by kernel_rfl) (by kernel_rfl) (by kernel_rfl) (fun _ _ _ h => h) (Or.inl ⟨by rfl, by intro w' h; go_simp⟩) hHeld ?_
  show wpAnyH _ _ _ _ _ _ _ (Act.put _ (some 16) _) _
  simp only [Act.put, List.setIfInBounds_toArray, List.set_cons_zero, List.set_cons_succ]
  refine wpAnyH_take (i := 7) (v := .slice (some ⟨b, 0, none⟩) k ac) rfl (by kernel_rfl) (by kernel_rfl) (by kernel_rfl) (fun _ _ _ h => h) (Or.inl ⟨by rfl, by intro w' h; have k0 := Blk.cell h.1 2; simp only [List.getElem?_cons_zero, List.getElem?_cons_succ] at k0; go_simp⟩) hHeld ?_
  show wpAnyH _ _ _ _ _ _ _ (Act.put _ (some 17) _) _
  simp only [Act.put, List.setIfInBounds_toArray, List.set_cons_zero, List.set_cons_succ]
  refine wpAnyH_take (i := 8) (v := .int .i64 (k : Int)) rfl (by kernel_rfl) (by kernel_rfl) (by kernel_rfl) (fun _ _ _ h => h) (Or.inl ⟨by rfl, by intro w' h; go_simp⟩) hHeld ?_
  show wpAnyH _ _ _ _ _ _ _ (Act.put _ (some 18) _) _
  simp only [Act.put, List.setIfInBounds_toArray, List.set_cons_zero, List.set_cons_succ]
  refine wpAnyH_take (i := 9) (v := .int .i64 (j : Int)) rfl (by kernel_rfl) (by kernel_rfl) (by kernel_rfl) (fun _ _ _ h => h) (Or.inl ⟨by rfl, by intro w' h; go_simp; first | done | (simp [HQ.out.1, HQ.out.2]) | (rw [HQ.out.1])⟩) hHeld ?_
  show wpAnyH _ _ _ _ _ _ _ (Act.put _ (some 19) _) _
  simp only [Act.put, List.setIfInBounds_toArray, List.set_cons_zero, List.set_cons_succ]
  refine wpAnyH_take (i := 10) (v := .pointer (some ⟨b, j, none⟩)) rfl (by kernel_rfl) (by kernel_rfl) (by kernel_rfl) (fun _ _ _ h => h) (Or.inl ⟨by rfl, by intro w' h; go_simp⟩) hHeld ?_
  show wpAnyH _ _ _ _ _ _ _ (Act.put _ (some 20) _) _
  simp only [Act.put, List.setIfInBounds_toArray, List.set_cons_zero, List.set_cons_succ]
  refine wpAnyH_take (i := 11) (v := .int .u64 y) rfl (by kernel_rfl) (by kernel_rfl) (by kernel_rfl) (fun _ _ _ h => h) (Or.inl ⟨by rfl, by intro w' h; have q9 := h.2.2; go_simp⟩) hHeld ?_
  show wpAnyH _ _ _ _ _ _ _ (Act.put _ (some 21) _) _
  simp only [Act.put, List.setIfInBounds_toArray, List.set_cons_zero, List.set_cons_succ]
  refine wpAnyH_ready (rs := [12]) (by kernel_rfl) (by simp) ?_
  refine AllReadyH.cons rfl (fun K hK => ?_) AllReadyH.nil
  refine step_call rfl 52 #[.tmp 13, .tmp 21] #[40, 40] rfl #[.int .u64 x, .int .u64 y] (by simp [Act.eval]) (by go_simp) ((sub_any x y X0 HXY.out.1 HXY.out.2).mono (fun e w9 h9 => (⟨h9.1, h9.2 ▸ Below.refl _ _⟩ : e = .returned (.tuple #[.int .u64 (subV x y), .int .i64 (subE x y)]) ∧ Below X0.heap.size X0 w9))) ?_
  rintro e X1 ⟨rfl, hB⟩
  have PX1 : Hid (Blk X1 w.heap.size 89 [.slice na n nc, .slice ga m gc, .slice (some ⟨b, 0, none⟩) k ac]) := Lib.hid (PX0.out.below hB PX0.out.lt)
  have CX1 : Hid (X1.cell? ⟨b, 0, none⟩ = some (.int .u64 x)) := Lib.hid ((hB.cell (p := ⟨b, 0, none⟩) (World.block_lt_of_cell? _ _ CX0.out)).trans CX0.out)
  have DX1 : Hid (X1.cell? ⟨b, j, none⟩ = some (.int .u64 y)) := Lib.hid ((hB.cell (p := ⟨b, j, none⟩) (World.block_lt_of_cell? _ _ DX0.out)).trans DX0.out)
  have BX1 : Hid (Below w.heap.size w X1) := Lib.hid (BX0.out.trans (hB.mono BX0.out.size))
  clear PX0 CX0 DX0 BX0 hB
  refine ⟨_, rfl, hK.out _ _ (⟨PX1.out, CX1.out, DX1.out⟩) (fun hHeld => ?_)⟩
  clear hK K
  show wpAnyH _ _ _ _ _ _ _ (Act.put _ (some 22) _) _
  simp only [Act.put, List.setIfInBounds_toArray, List.set_cons_zero, List.set_cons_succ]
  refine wpAnyH_take (i := 13) (v := .tuple #[.int .u64 (subV x y), .int .i64 (subE x y)]) rfl (by kernel_rfl) (by kernel_rfl) (by kernel_rfl) (fun _ _ _ h => h) (Or.inl ⟨by rfl, fun w _ => by rfl⟩) hHeld ?_
  show wpAnyH _ _ _ _ _ _ _ (Act.put _ (some 9) _) _
  simp only [Act.put, List.setIfInBounds_toArray, List.set_cons_zero, List.set_cons_succ]
  refine wpAnyH_take (i := 14) (v := .int .u64 (subV x y)) rfl (by kernel_rfl) (by kernel_rfl) (by kernel_rfl) (fun _ _ _ h => h) (Or.inl ⟨by rfl, by intro w' h; go_simp⟩) hHeld ?_
  show wpAnyH _ _ _ _ _ _ _ (Act.put _ (some 23) _) _
  simp only [Act.put, List.setIfInBounds_toArray, List.set_cons_zero, List.set_cons_succ]
  refine wpAnyH_take (i := 15) (v := .int .i64 (subE x y)) rfl (by kernel_rfl) (by kernel_rfl) (by kernel_rfl) (fun _ _ _ h => h) (Or.inl ⟨by rfl, by intro w' h; go_simp⟩) hHeld ?_
  show wpAnyH _ _ _ _ _ _ _ (Act.put _ (some 24) _) _
  simp only [Act.put, List.setIfInBounds_toArray, List.set_cons_zero, List.set_cons_succ]
  refine wpAnyH_take (i := 16) (v := .int .u64 (subV x y)) rfl (by kernel_rfl) (by kernel_rfl) (by kernel_rfl) (fun _ _ _ h => h) (Or.inl ⟨by rfl, fun w _ => by rfl⟩) hHeld ?_
  show wpAnyH _ _ _ _ _ _ _ (Act.put _ (some 3) _) _
  simp only [Act.put, List.setIfInBounds_toArray, List.set_cons_zero, List.set_cons_succ]
  refine wpAnyH_take (i := 17) (v := .int .i64 (subE x y)) rfl (by kernel_rfl) (by kernel_rfl) (by kernel_rfl) (fun _ _ _ h => h) (Or.inl ⟨by rfl, fun w _ => by rfl⟩) hHeld ?_
  show wpAnyH _ _ _ _ _ _ _ (Act.put _ (some 4) _) _
  simp only [Act.put, List.setIfInBounds_toArray, List.set_cons_zero, List.set_cons_succ]
  refine wpAnyH_done (by kernel_rfl) ?_ _
  clear hHeld
  go_wp2
  go_ret
  exact ⟨rfl, BX1.out⟩
end Go.Proofs.Ytnnimjaigciedaa
namespace Go.Proofs.Ytnnimjaigciedaa
open Go.RowKit
set_option linter.unusedVariables false

set_option maxRecDepth 100000 in
set_option maxHeartbeats 4000000 in
theorem pawake_any (w : World) : Calls Try.prog 33 #[] w fun e w' => e = .returned (.bool true) ∧ Below w.heap.size w w' := by
  have hmk : ∀ w, (Instr.makeSlice 22 (.int .i64 3) (.int .i64 3)).run Try.prog w = .ok (.slice (some ⟨w.heap.size, 0, none⟩) 3 3) (w.alloc (.cells #[.int .i64 0, .int .i64 0, .int .i64 0, .int .i64 0, .int .i64 0, .int .i64 0] 56)) := fun _ => by kernel_rfl
  go_enter Try.func33, Try.ntmps33
  go_wp2_with fail
  have HS : Hid (SpotRow (((w.alloc (.cells #[.int .i64 0, .int .i64 0, .int .i64 0, .int .i64 0, .int .i64 0, .int .i64 0] 56)).alloc (.cells #[.int .i64 0, .int .i64 1, .int .u64 9, .int .u64 0, .int .u64 0, .int .u64 0, .int .u64 0, .int .u64 0, .int .i64 1, .int .i64 2, .int .u64 9, .int .u64 0, .int .u64 1, .int .u64 0, .int .u64 0, .int .u64 0] 102)).alloc (.cells #[.slice (some ⟨w.heap.size, 0, none⟩) 3 3, .slice (some ⟨w.heap.size + 1, 0, none⟩) 2 2] 25)) (some ⟨w.heap.size, 0, none⟩) [(0, 0), (0, 0), (0, 0)]) := Lib.hid (by
    have h : Blk (((w.alloc (.cells #[.int .i64 0, .int .i64 0, .int .i64 0, .int .i64 0, .int .i64 0, .int .i64 0] 56)).alloc (.cells #[.int .i64 0, .int .i64 1, .int .u64 9, .int .u64 0, .int .u64 0, .int .u64 0, .int .u64 0, .int .u64 0, .int .i64 1, .int .i64 2, .int .u64 9, .int .u64 0, .int .u64 1, .int .u64 0, .int .u64 0, .int .u64 0] 102)).alloc (.cells #[.slice (some ⟨w.heap.size, 0, none⟩) 3 3, .slice (some ⟨w.heap.size + 1, 0, none⟩) 2 2] 25)) w.heap.size 56 [.int .i64 0, .int .i64 0, .int .i64 0, .int .i64 0, .int .i64 0, .int .i64 0] := ((Blk.new w 56 [.int .i64 0, .int .i64 0, .int .i64 0, .int .i64 0, .int .i64 0, .int .i64 0]).alloc _).alloc _
    refine .inr ⟨w.heap.size, 0, rfl, h.lt, fun i hi => ?_⟩
    match i, hi with
    | 0, _ => exact ⟨h.cell 0, h.cell 1⟩
    | 1, _ => exact ⟨h.cell 2, h.cell 3⟩
    | 2, _ => exact ⟨h.cell 4, h.cell 5⟩)
  have HE : Hid (EdgeRow (((w.alloc (.cells #[.int .i64 0, .int .i64 0, .int .i64 0, .int .i64 0, .int .i64 0, .int .i64 0] 56)).alloc (.cells #[.int .i64 0, .int .i64 1, .int .u64 9, .int .u64 0, .int .u64 0, .int .u64 0, .int .u64 0, .int .u64 0, .int .i64 1, .int .i64 2, .int .u64 9, .int .u64 0, .int .u64 1, .int .u64 0, .int .u64 0, .int .u64 0] 102)).alloc (.cells #[.slice (some ⟨w.heap.size, 0, none⟩) 3 3, .slice (some ⟨w.heap.size + 1, 0, none⟩) 2 2] 25)) (some ⟨w.heap.size + 1, 0, none⟩) [ew1, ew2]) := Lib.hid (by
    have h : Blk (((w.alloc (.cells #[.int .i64 0, .int .i64 0, .int .i64 0, .int .i64 0, .int .i64 0, .int .i64 0] 56)).alloc (.cells #[.int .i64 0, .int .i64 1, .int .u64 9, .int .u64 0, .int .u64 0, .int .u64 0, .int .u64 0, .int .u64 0, .int .i64 1, .int .i64 2, .int .u64 9, .int .u64 0, .int .u64 1, .int .u64 0, .int .u64 0, .int .u64 0] 102)).alloc (.cells #[.slice (some ⟨w.heap.size, 0, none⟩) 3 3, .slice (some ⟨w.heap.size + 1, 0, none⟩) 2 2] 25)) (w.heap.size + 1) 102 [.int .i64 0, .int .i64 1, .int .u64 9, .int .u64 0, .int .u64 0, .int .u64 0, .int .u64 0, .int .u64 0, .int .i64 1, .int .i64 2, .int .u64 9, .int .u64 0, .int .u64 1, .int .u64 0, .int .u64 0, .int .u64 0] := (Blk.mk_ (cs := [.int .i64 0, .int .i64 1, .int .u64 9, .int .u64 0, .int .u64 0, .int .u64 0, .int .u64 0, .int .u64 0, .int .i64 1, .int .i64 2, .int .u64 9, .int .u64 0, .int .u64 1, .int .u64 0, .int .u64 0, .int .u64 0]) (by simp)).alloc _
    refine .inr ⟨w.heap.size + 1, 0, rfl, h.lt, fun i hi j v hv => ?_⟩
    match i, hi with
    | 0, _ =>
      rw [h.cell, show 0 + 0 * 8 + j = j by omega]
      match j, hv with
      | 0, hv => exact hv
      | 1, hv => exact hv
      | 2, hv => exact hv
      | 3, hv => exact hv
      | 4, hv => exact hv
      | 5, hv => exact hv
      | 6, hv => exact hv
      | 7, hv => exact hv
      | j + 8, hv => simp [ecells] at hv
    | 1, _ =>
      rw [h.cell, show 0 + 1 * 8 + j = j + 8 by omega]
      match j, hv with
      | 0, hv => exact hv
      | 1, hv => exact hv
      | 2, hv => exact hv
      | 3, hv => exact hv
      | 4, hv => exact hv
      | 5, hv => exact hv
      | 6, hv => exact hv
      | 7, hv => exact hv
      | j + 8, hv => simp [ecells] at hv)
  have HB : Hid (Below w.heap.size w (((w.alloc (.cells #[.int .i64 0, .int .i64 0, .int .i64 0, .int .i64 0, .int .i64 0, .int .i64 0] 56)).alloc (.cells #[.int .i64 0, .int .i64 1, .int .u64 9, .int .u64 0, .int .u64 0, .int .u64 0, .int .u64 0, .int .u64 0, .int .i64 1, .int .i64 2, .int .u64 9, .int .u64 0, .int .u64 1, .int .u64 0, .int .u64 0, .int .u64 0] 102)).alloc (.cells #[.slice (some ⟨w.heap.size, 0, none⟩) 3 3, .slice (some ⟨w.heap.size + 1, 0, none⟩) 2 2] 25))) := Lib.hid ((((Below.refl _ _).alloc (Nat.le_refl _) _).alloc (by simp) _).alloc (by simp; omega) _)
  generalize (((w.alloc (.cells #[.int .i64 0, .int .i64 0, .int .i64 0, .int .i64 0, .int .i64 0, .int .i64 0] 56)).alloc (.cells #[.int .i64 0, .int .i64 1, .int .u64 9, .int .u64 0, .int .u64 0, .int .u64 0, .int .u64 0, .int .u64 0, .int .i64 1, .int .i64 2, .int .u64 9, .int .u64 0, .int .u64 1, .int .u64 0, .int .u64 0, .int .u64 0] 102)).alloc (.cells #[.slice (some ⟨w.heap.size, 0, none⟩) 3 3, .slice (some ⟨w.heap.size + 1, 0, none⟩) 2 2] 25)) = V at HS HE HB ⊢
  refine (wto_any _ 3 3 _ 2 2 [(0, 0), (0, 0), (0, 0)] [ew1, ew2] V HS.out HE.out rfl rfl (by omega) (by omega)).mono ?_
  rintro e Y ⟨sa, sc, ea, ec, rfl, h1, h2, h3, h4, hB⟩
  have HE2 := Lib.hid h2
  replace HB := Lib.hid (HB.out.trans (hB.mono HB.out.size))
  clear hB h1 h2 h3 h4 HS HE
  go_wp2_with fail
  refine (best_any sa 3 sc ea 2 ec [ew1, ew2] 0 2 5 Y HE2.out rfl (by omega) (by omega) (by
    intro e he
    simp at he
    rcases he with rfl | rfl <;> (unfold EdOk Word; simp [ew1, ew2])) ⟨by omega, by omega⟩).mono ?_
  rintro e Z ⟨hB, h⟩
  replace HB := Lib.hid (HB.out.trans (hB.mono HB.out.size))
  clear hB HE2
  rcases h with ⟨h, _⟩ | ⟨_, h, _⟩ | ⟨_, _, r, hr, rfl, hok, _⟩
  · exact absurd aw_seek h
  · exact absurd h aw_some
  obtain ⟨na, nc, ga, gc, aa, ac, l, s⟩ := r
  rw [aw_best] at hr
  simp only [Rt.tr, Prod.mk.injEq] at hr
  obtain ⟨rfl, rfl⟩ := hr
  have ho := hok.2.2
  simp only at ho ⊢
  rw [aw_amts] at ho
  rw [show ([0, 1, 2] : List Int).length = 3 from rfl, show ([⟨0, 1, 9, 0, 0⟩, ⟨1, 2, 9, 1, 0⟩] : List Stp).length = 2 from rfl]
  rw [show ([⟨0, 1, 9, 0, 0⟩, ⟨1, 2, 9, 1, 0⟩] : List Stp).length = 2 from rfl] at ho
  obtain ⟨b, hb⟩ := own_some ho (by omega)
  subst hb
  have c6 : Z.cell? ⟨b, 0, none⟩ = some (.int .u64 6) := by rw [ho.cellAt 0 (by omega)]; rfl
  have c5 : Z.cell? ⟨b, 1, none⟩ = some (.int .u64 5) := by rw [ho.cellAt 1 (by omega)]; rfl
  clear hok ho
  have hBo : Below Z.heap.size Z (Z.alloc (.cells #[.slice na 3 nc, .slice ga 2 gc, .slice (some ⟨b, 0, none⟩) 2 ac] 89)) := (Below.refl _ _).alloc (Nat.le_refl _) _
  have a6 := (hBo.cell (p := ⟨b, 0, none⟩) (World.block_lt_of_cell? _ _ c6)).trans c6
  have a5 := (hBo.cell (p := ⟨b, 1, none⟩) (World.block_lt_of_cell? _ _ c5)).trans c5
  have N0 : Hid (Blk (Z.alloc (.cells #[.slice na 3 nc, .slice ga 2 gc, .slice (some ⟨b, 0, none⟩) 2 ac] 89)) Z.heap.size 89 [.slice na 3 nc, .slice ga 2 gc, .slice (some ⟨b, 0, none⟩) 2 ac]) := Lib.hid (Blk.new Z 89 [.slice na 3 nc, .slice ga 2 gc, .slice (some ⟨b, 0, none⟩) 2 ac])
  have r0 := N0.out.cell 0
  have r1 := N0.out.cell 1
  have r2 := N0.out.cell 2
  simp only [List.getElem?_cons_zero, List.getElem?_cons_succ] at r0 r1 r2
  have B1 := Lib.hid (HB.out.trans (hBo.mono HB.out.size))
  have A6 := Lib.hid a6
  have A5 := Lib.hid a5
  clear hBo c6 c5 HB
  go_wp2_with fail
  clear r0 r1 r2 a6 a5
  generalize Z.alloc (.cells #[.slice na 3 nc, .slice ga 2 gc, .slice (some ⟨b, 0, none⟩) 2 ac] 89) = W1 at N0 B1 A6 A5 ⊢
  refine (long_any na ga (some ⟨b, 0, none⟩) 3 nc 2 gc 2 ac W1).mono ?_
  rintro e W2 ⟨rfl, hB⟩
  have N2 := Lib.hid (N0.out.below hB N0.out.lt)
  have B2 := Lib.hid (B1.out.trans (hB.mono B1.out.size))
  have C6 := Lib.hid ((hB.cell (p := ⟨b, 0, none⟩) (World.block_lt_of_cell? _ _ A6.out)).trans A6.out)
  have C5 := Lib.hid ((hB.cell (p := ⟨b, 1, none⟩) (World.block_lt_of_cell? _ _ A5.out)).trans A5.out)
  clear hB N0 B1 A6 A5
  have r0 := N2.out.cell 0
  have r1 := N2.out.cell 1
  have r2 := N2.out.cell 2
  simp only [List.getElem?_cons_zero, List.getElem?_cons_succ] at r0 r1 r2
  go_wp2_with fail
  clear r0 r1 r2
  refine (rfees_any na ga 3 nc 2 gc b 2 1 ac 6 5 W2 rfl (by omega) ⟨by omega, by omega⟩ ⟨by omega, by omega⟩ C6.out C5.out).mono ?_
  rintro e W3 ⟨rfl, hB⟩
  rw [show subV 6 5 = 1 by decide]
  have B3 := Lib.hid (B2.out.trans (hB.mono B2.out.size))
  clear hB B2 N2
  go_wp2
  go_ret
  exact ⟨rfl, B3.out⟩
end Go.Proofs.Ytnnimjaigciedaa
