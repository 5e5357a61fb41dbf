/-
  line 30: an order's line; Text 14.
-/
import Derived.Test.YtkilajobnlagbaaDoorCodT
namespace Go.Proofs.YtkilajobnlagbaaDoor
open Go.RowKit
set_option linter.unusedVariables false

def lineS (NM : ByteArray) (F num : Nat) : ByteArray := if F = 0 then NM else (NM ++ ⟨#[32]⟩) ++ ⟨(Lib.decDigits num).toArray⟩
theorem dec_le (u : Nat) (hu : u < 18446744073709551616) : (Lib.decDigits u).length ≤ 20 := by
  rw [Lib.decDigits_length]
  by_cases h : 1 ≤ u
  · have := Lib.numDigits_eq u h hu
    split at this <;> omega
  · obtain rfl : u = 0 := by omega
    decide +kernel
set_option maxRecDepth 100000 in
set_option maxHeartbeats 4000000 in
theorem line_any (op num bh F C TK : Nat) (NM : ByteArray) (w : World) (HPT : Hid (PTab w)) (hnum : num < 18446744073709551616) (hNM : NM.size ≤ 100) :
    Calls Tryd.prog 30 #[.agg #[.int .i64 (op : Int), .string NM, .int .i64 (F : Int), .int .i64 (C : Int), .int .i64 (TK : Int), .int .u64 (num : Int), .int .i64 (bh : Int)]] w fun e w' => e = .returned (.string (lineS NM F num)) ∧ Below w.heap.size w w' := by
  have HB := Lib.hid (fun o => up1 w o)
  by_cases hF : F = 0
  · have e : lineS NM F num = NM := by unfold lineS; rw [if_pos hF]
    rw [e]
    subst hF
    clear e HPT hNM hnum
    rw [show ((0 : Nat) : Int) = 0 from rfl]
    go_enter Tryd.func30, Tryd.ntmps30
    go_wp2
    go_ret
    exact ⟨rfl, HB.out _⟩
  · have e : lineS NM F num = (NM ++ ⟨#[32]⟩) ++ ⟨(Lib.decDigits num).toArray⟩ := by unfold lineS; rw [if_neg hF]
    rw [e]
    have hF0 : ¬ ((F : Int) = 0) := by omega
    have HNM := Lib.hid hnum
    have hz1 : NM.size ≤ 9223372036854775806 := by omega
    have hz2 : NM.size + 1 + (Lib.decDigits num).length ≤ 9223372036854775807 := by have := dec_le num hnum; omega
    clear e hF hnum hNM
    go_enter Tryd.func30, Tryd.ntmps30
    go_upto_region 3 with fail
    have QV : Hid (Blk (w.alloc (.cells #[.int .i64 (op : Int), .string NM, .int .i64 (F : Int), .int .i64 (C : Int), .int .i64 (TK : Int), .int .u64 (num : Int), .int .i64 (bh : Int)] 58)) w.heap.size 58 [.int .i64 (op : Int), .string NM, .int .i64 (F : Int), .int .i64 (C : Int), .int .i64 (TK : Int), .int .u64 (num : Int), .int .i64 (bh : Int)]) := Lib.hid (Blk.new w 58 _)
    have BV : Hid (Below w.heap.size w (w.alloc (.cells #[.int .i64 (op : Int), .string NM, .int .i64 (F : Int), .int .i64 (C : Int), .int .i64 (TK : Int), .int .u64 (num : Int), .int .i64 (bh : Int)] 58))) := Lib.hid (HB.out _)
    generalize w.alloc (.cells #[.int .i64 (op : Int), .string NM, .int .i64 (F : Int), .int .i64 (C : Int), .int .i64 (TK : Int), .int .u64 (num : Int), .int .i64 (bh : Int)] 58) = V at QV BV ⊢
    clear HB
    have hBz : Below V.heap.size V V.drew := below_drewN (Below.refl _ _) 1
    have BX0 : Hid (Below w.heap.size w V.drew) := Lib.hid (BV.out.trans (hBz.mono BV.out.size))
    have QX0 : Hid (Blk V.drew w.heap.size 58 [.int .i64 (op : Int), .string NM, .int .i64 (F : Int), .int .i64 (C : Int), .int .i64 (TK : Int), .int .u64 (num : Int), .int .i64 (bh : Int)]) := Lib.hid (QV.out.below hBz QV.out.lt)
    clear hBz
    refine wp_region_held_drew (S := fun w' => Blk w' w.heap.size 58 [.int .i64 (op : Int), .string NM, .int .i64 (F : Int), .int .i64 (C : Int), .int .i64 (TK : Int), .int .u64 (num : Int), .int .i64 (bh : Int)]) (by kernel_rfl) (QX0.out) (fun hHeld => ?_)
    generalize V.drew = X0 at hHeld BX0 QX0 ⊢
    refine wpAnyH_take (i := 0) (v := .pointer (some ⟨w.heap.size, 1, none⟩)) rfl (by kernel_rfl) (by kernel_rfl) (by kernel_rfl) (fun _ _ _ h => h) (Or.inl ⟨by rfl, by intro w' h; go_simp⟩) hHeld ?_
    show wpAnyH _ _ _ _ _ _ _ (Act.put _ (some 10) _) _
    simp only [Act.put, List.setIfInBounds_toArray, List.set_cons_zero, List.set_cons_succ]
    refine wpAnyH_take (i := 1) (v := .pointer (some ⟨w.heap.size, 1, none⟩)) rfl (by kernel_rfl) (by kernel_rfl) (by kernel_rfl) (fun _ _ _ h => h) (Or.inl ⟨by rfl, by intro w' h; go_simp⟩) hHeld ?_
    show wpAnyH _ _ _ _ _ _ _ (Act.put _ (some 11) _) _
    simp only [Act.put, List.setIfInBounds_toArray, List.set_cons_zero, List.set_cons_succ]
    refine wpAnyH_take (i := 2) (v := .string NM) rfl (by kernel_rfl) (by kernel_rfl) (by kernel_rfl) (fun _ _ _ h => h) (Or.inl ⟨by rfl, by intro w' h; have kx := Blk.cell h 1; simp only [List.getElem?_cons_zero, List.getElem?_cons_succ] at kx; go_simp⟩) hHeld ?_
    show wpAnyH _ _ _ _ _ _ _ (Act.put _ (some 12) _) _
    simp only [Act.put, List.setIfInBounds_toArray, List.set_cons_zero, List.set_cons_succ]
    refine wpAnyH_take (i := 3) (v := .string (NM ++ ⟨#[32]⟩)) rfl (by kernel_rfl) (by kernel_rfl) (by kernel_rfl) (fun _ _ _ h => h) (Or.inl ⟨by rfl, by intro w' h; go_simp⟩) hHeld ?_
    show wpAnyH _ _ _ _ _ _ _ (Act.put _ (some 13) _) _
    simp only [Act.put, List.setIfInBounds_toArray, List.set_cons_zero, List.set_cons_succ]
    refine wpAnyH_take (i := 4) (v := .pointer (some ⟨w.heap.size, 5, none⟩)) rfl (by kernel_rfl) (by kernel_rfl) (by kernel_rfl) (fun _ _ _ h => h) (Or.inl ⟨by rfl, by intro w' h; go_simp⟩) hHeld ?_
    show wpAnyH _ _ _ _ _ _ _ (Act.put _ (some 14) _) _
    simp only [Act.put, List.setIfInBounds_toArray, List.set_cons_zero, List.set_cons_succ]
    refine wpAnyH_take (i := 5) (v := .int .u64 (num : Int)) rfl (by kernel_rfl) (by kernel_rfl) (by kernel_rfl) (fun _ _ _ h => h) (Or.inl ⟨by rfl, by intro w' h; have kx := Blk.cell h 5; simp only [List.getElem?_cons_zero, List.getElem?_cons_succ] at kx; go_simp⟩) hHeld ?_
    show wpAnyH _ _ _ _ _ _ _ (Act.put _ (some 15) _) _
    simp only [Act.put, List.setIfInBounds_toArray, List.set_cons_zero, List.set_cons_succ]
    refine wpAnyH_ready (rs := [6]) (by kernel_rfl) (by simp) ?_
    refine AllReadyH.cons rfl (fun K hK => ?_) AllReadyH.nil
    refine step_call rfl 49 #[.tmp 15, .const (.int .i64 10)] #[25, 3] rfl #[.int .u64 (num : Int), .int .i64 10] (by simp [Act.eval]) (by go_simp) (fmt_any num HNM.out X0 (Lib.hid (PTab.below HPT.out BX0.out))) ?_
    rintro e X1 ⟨rfl, hB⟩
    have BX1 : Hid (Below w.heap.size w X1) := Lib.hid (BX0.out.trans (hB.mono BX0.out.size))
    have QX1 : Hid (Blk X1 w.heap.size 58 [.int .i64 (op : Int), .string NM, .int .i64 (F : Int), .int .i64 (C : Int), .int .i64 (TK : Int), .int .u64 (num : Int), .int .i64 (bh : Int)]) := Lib.hid (QX0.out.below hB QX0.out.lt)
    clear BX0 QX0 hB
    refine ⟨_, rfl, hK.out _ _ (QX1.out) (fun hHeld => ?_)⟩
    clear hK K
    show wpAnyH _ _ _ _ _ _ _ (Act.put _ (some 16) _) _
    simp only [Act.put, List.setIfInBounds_toArray, List.set_cons_zero, List.set_cons_succ]
    refine wpAnyH_take (i := 7) (v := .string ((NM ++ ⟨#[32]⟩) ++ ⟨(Lib.decDigits num).toArray⟩)) rfl (by kernel_rfl) (by kernel_rfl) (by kernel_rfl) (fun _ _ _ h => h) (Or.inl ⟨by rfl, by intro w' h; go_simp⟩) hHeld ?_
    show wpAnyH _ _ _ _ _ _ _ (Act.put _ (some 17) _) _
    simp only [Act.put, List.setIfInBounds_toArray, List.set_cons_zero, List.set_cons_succ]
    refine wpAnyH_take (i := 8) (v := .string ((NM ++ ⟨#[32]⟩) ++ ⟨(Lib.decDigits num).toArray⟩)) rfl (by kernel_rfl) (by kernel_rfl) (by kernel_rfl) (fun _ _ _ h => h) (Or.inl ⟨by rfl, fun w _ => by rfl⟩) hHeld ?_
    show wpAnyH _ _ _ _ _ _ _ (Act.put _ (some 2) _) _
    simp only [Act.put, List.setIfInBounds_toArray, List.set_cons_zero, List.set_cons_succ]
    refine wpAnyH_done (by kernel_rfl) ?_ _
    clear hHeld
    go_wp2
    go_ret
    exact ⟨rfl, BX1.out⟩
end Go.Proofs.YtkilajobnlagbaaDoor
