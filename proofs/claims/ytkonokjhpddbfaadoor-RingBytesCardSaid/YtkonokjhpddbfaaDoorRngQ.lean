/-
  The document's Same of two signatures that are one (function 52); nothing that was there is written.
-/
import Derived.Test.YtkonokjhpddbfaaDoorGH
import Derived.Test.YtkonokjhpddbfaaDoorGD
namespace Go.Proofs.YtkonokjhpddbfaaDoor
open Go.RowKit
set_option linter.unusedVariables false

theorem info99' : (Tryd.prog.info? 99).map (·.size) = some 1026 := by kernel_rfl
theorem run_bin_op' {o : Oper} {a : Act} {b : BinOp} {t u : TypeId} {x y : Operand} (ho : o.op = .binOp b t x y u) (hm : Tryd.prog.eqGuardType Tryd.prog.depth t = false) (vx vy : Array Value) (hx : a.eval x = .agg vx) (hy : a.eval y = .agg vy) (v : Value) (w : World) (hb : (binOp b t (.agg vx) (.agg vy)).run Tryd.prog w = .ok v w) :
    (execOp a.eval o).run Tryd.prog w = .ok (.value v) w := by
  unfold execOp
  simp only [ho, hx, hy, Sem.run_bind, run_eqGuard_agg w b t x y vx vy hm, hb, Result.andThen_ok, Sem.run_pure]

set_option maxRecDepth 100000 in
set_option maxHeartbeats 2000000 in
theorem same_eq (S : List Nat) (key m : Nat) (va vb : Value) (f : Nat → List Nat) (w : World) (HSL : Hid (S.length = 1024)) (HF : Hid (∀ a, (f a).length = 32)) (HYA : Hid (WayR w va f m)) (HYB : Hid (WayR w vb f m)) (hm : m ≤ 1000000) :
    Calls Tryd.prog 52 #[.agg (rsg S key va).toArray, .agg (rsg S key vb).toArray] w fun e w' => e = .returned (.bool true) ∧ Below w.heap.size w w' := by
  have m1 : (m : Int) ≤ 1000000 := by omega
  obtain ⟨Aa, ca, rfl, h1⟩ := HYA.out
  obtain ⟨Ab, cb, rfl, h2⟩ := HYB.out
  have H1 := Lib.hid h1
  have H2 := Lib.hid h2
  clear h1 h2 HYA HYB
  have HIS : Hid ((Tryd.prog.info? 51).map (·.size) = some (w8 S).length) := Lib.hid (by rw [w8_length, HSL.out]; exact info51)
  have hns : ∀ W : World, (binOp .neq 51 (.agg (w8 S).toArray) (.agg (w8 S).toArray)).run Tryd.prog W = .ok (.bool false) W := fun W => neq_sig S HSL.out W
  go_enter Tryd.func52, Tryd.ntmps52
  go_upto_region 1 with fail
  have P : Hid (Blk ((w.alloc (.cells (rsg S key (.slice Aa m ca)).toArray 99)).alloc (.cells (rsg S key (.slice Ab m cb)).toArray 99)) w.heap.size 99 (rsg S key (.slice Aa m ca))) := Lib.hid (by
    have h := (Blk.new w 99 (rsg S key (.slice Aa m ca))).alloc (.cells (rsg S key (.slice Ab m cb)).toArray 99)
    exact h)
  have Q : Hid (Blk ((w.alloc (.cells (rsg S key (.slice Aa m ca)).toArray 99)).alloc (.cells (rsg S key (.slice Ab m cb)).toArray 99)) (w.heap.size + 1) 99 (rsg S key (.slice Ab m cb))) := Lib.hid (by
    have h := Blk.new (w.alloc (.cells (rsg S key (.slice Aa m ca)).toArray 99)) 99 (rsg S key (.slice Ab m cb))
    rw [World.size_alloc] at h
    exact h)
  have B : Hid (Below w.heap.size w ((w.alloc (.cells (rsg S key (.slice Aa m ca)).toArray 99)).alloc (.cells (rsg S key (.slice Ab m cb)).toArray 99))) := Lib.hid (((Below.refl _ _).alloc (Nat.le_refl _) _).alloc (by simp) _)
  generalize ((w.alloc (.cells (rsg S key (.slice Aa m ca)).toArray 99)).alloc (.cells (rsg S key (.slice Ab m cb)).toArray 99)) = V at P Q B ⊢
  have a1 : V.cell? ⟨w.heap.size, 1025, none⟩ = some (.slice Aa m ca) := by rw [P.out.cell]; exact rsg_way _ _ _ HSL.out
  have a2 : V.cell? ⟨w.heap.size, 1024, none⟩ = some (.int .u32 (key : Int)) := by rw [P.out.cell]; exact rsg_key _ _ _ HSL.out
  have b1 : V.cell? ⟨w.heap.size + 1, 1025, none⟩ = some (.slice Ab m cb) := by rw [Q.out.cell]; exact rsg_way _ _ _ HSL.out
  have b2 : V.cell? ⟨w.heap.size + 1, 1024, none⟩ = some (.int .u32 (key : Int)) := by rw [Q.out.cell]; exact rsg_key _ _ _ HSL.out
  have RA := Lib.hid (rsg_sig P.out HSL.out)
  have RB := Lib.hid (rsg_sig Q.out HSL.out)
  go_upto_region 4 with (first | (refine wpList_load_mid rfl 51 (.tmp 6) rfl w.heap.size 0 rfl (w8 S) _ RA.out Tryd.underlying51 rfl HIS.out ?_) | (refine wpList_load_mid rfl 51 (.tmp 8) rfl (w.heap.size + 1) 0 rfl (w8 S) _ RB.out Tryd.underlying51 rfl HIS.out ?_))
  clear a1 a2 b1 b2 RA RB hns
  go_loopw [5] (fun i wr => ∃ (k : Nat), k ≤ m ∧ i = .int .i64 k ∧ Hid (Blk wr w.heap.size 99 (rsg S key (.slice Aa m ca))) ∧ Hid (Blk wr (w.heap.size + 1) 99 (rsg S key (.slice Ab m cb))) ∧ Hid (Below w.heap.size w wr)) (fun i _ => m - (intOf i).toNat)
  case atStart => exact ⟨0, Nat.zero_le _, rfl, P, Q, B⟩
  case round =>
    clear P Q B
    obtain ⟨k, hk, rfl, Pr, Qr, Br⟩ := hrel
    have a1 : wr.cell? ⟨w.heap.size, 1025, none⟩ = some (.slice Aa m ca) := by rw [Pr.out.cell]; exact rsg_way _ _ _ HSL.out
    by_cases hlt : k < m
    · have k1 : (k : Int) < (m : Int) := by omega
      have k2 : (k : Int) ≤ 1000000 := by omega
      obtain ⟨ga, oa, rfl, hga, hca⟩ : ∃ g o, Aa = some ⟨g, o, none⟩ ∧ g < w.heap.size ∧ ∀ i, i < m → w.rangeAt g (o + i * 32) (w8 (f i)) := by
        rcases H1.out with h | h
        · omega
        · exact h
      obtain ⟨gb, ob, rfl, hgb, hcb⟩ : ∃ g o, Ab = some ⟨g, o, none⟩ ∧ g < w.heap.size ∧ ∀ i, i < m → w.rangeAt g (o + i * 32) (w8 (f i)) := by
        rcases H2.out with h | h
        · omega
        · exact h
      have hca1 := hca k hlt
      have hcb1 := hcb k hlt
      have Fr : Hid (∀ j u, (w8 (f k))[j]? = some u → wr.cell? ⟨ga, oa + k * 32 + j, none⟩ = some u) := Lib.hid fun j u hu => (Br.out.cell (p := ⟨ga, oa + k * 32 + j, none⟩) hga).trans (hca1 j u hu)
      have Gr : Hid (∀ j u, (w8 (f k))[j]? = some u → wr.cell? ⟨gb, ob + k * 32 + j, none⟩ = some u) := Lib.hid fun j u hu => (Br.out.cell (p := ⟨gb, ob + k * 32 + j, none⟩) hgb).trans (hcb1 j u hu)
      clear hca hcb hca1 hcb1
      have HI2 : Hid ((Tryd.prog.info? 29).map (·.size) = some (w8 (f k)).length) := Lib.hid (by rw [w8_length, HF.out]; exact info29)
      have HNE : Hid (∀ W : World, (binOp .neq 29 (.agg (w8 (f k)).toArray) (.agg (w8 (f k)).toArray)).run Tryd.prog W = .ok (.bool false) W) := Lib.hid fun W => by
        have h := neq_row Tryd.underlying29 (f k) (f k) (HF.out k) (HF.out k) W
        rw [h]
        simp
      go_upto_region 6 with fail
      clear a1
      have hBz : Below wr.heap.size wr wr.drew := below_drewN (Below.refl _ _) 1
      have PX0 : Hid (Blk wr.drew w.heap.size 99 (rsg S key (.slice (some ⟨ga, oa, none⟩) m ca))) := Lib.hid (Pr.out.below hBz Pr.out.lt)
      have QX0 : Hid (Blk wr.drew (w.heap.size + 1) 99 (rsg S key (.slice (some ⟨gb, ob, none⟩) m cb))) := Lib.hid (Qr.out.below hBz Qr.out.lt)
      have FX0 : Hid ((∀ j u, (w8 (f k))[j]? = some u → wr.drew.cell? ⟨ga, oa + k * 32 + j, none⟩ = some u)) := Lib.hid (fun j u hu => (hBz.cell (p := ⟨ga, oa + k * 32 + j, none⟩) (World.block_lt_of_cell? _ _ (Fr.out j u hu))).trans (Fr.out j u hu))
      have GX0 : Hid ((∀ j u, (w8 (f k))[j]? = some u → wr.drew.cell? ⟨gb, ob + k * 32 + j, none⟩ = some u)) := Lib.hid (fun j u hu => (hBz.cell (p := ⟨gb, ob + k * 32 + j, none⟩) (World.block_lt_of_cell? _ _ (Gr.out j u hu))).trans (Gr.out j u hu))
      have BX0 : Hid (Below w.heap.size w wr.drew) := Lib.hid (Br.out.trans (hBz.mono Br.out.size))
      clear hBz
      refine wp_region_held_drew (S := fun w' => Blk w' w.heap.size 99 (rsg S key (.slice (some ⟨ga, oa, none⟩) m ca)) ∧ Blk w' (w.heap.size + 1) 99 (rsg S key (.slice (some ⟨gb, ob, none⟩) m cb)) ∧ (∀ j u, (w8 (f k))[j]? = some u → w'.cell? ⟨ga, oa + k * 32 + j, none⟩ = some u) ∧ (∀ j u, (w8 (f k))[j]? = some u → w'.cell? ⟨gb, ob + k * 32 + j, none⟩ = some u)) (by kernel_rfl) (⟨PX0.out, QX0.out, FX0.out, GX0.out⟩) (fun hHeld => ?_)
      generalize wr.drew = X0 at hHeld PX0 QX0 FX0 GX0 BX0 ⊢
      refine wpAnyH_take (i := 0) (v := .pointer (some ⟨w.heap.size, 1025, none⟩)) rfl (by kernel_rfl) (by kernel_rfl) (by kernel_rfl) (fun _ _ _ h => h) (Or.inl ⟨by rfl, by intro w' h; go_simp⟩) hHeld ?_
      show wpAnyH _ _ _ _ _ _ _ (Act.put _ (some 34) _) _
      simp only [Act.put, List.setIfInBounds_toArray, List.set_cons_zero, List.set_cons_succ]
      refine wpAnyH_take (i := 1) (v := .slice (some ⟨ga, oa, none⟩) m ca) rfl (by kernel_rfl) (by kernel_rfl) (by kernel_rfl) (fun _ _ _ h => h) (Or.inl ⟨by rfl, by intro w' h; have q := Blk.cell h.1 1025; rw [rsg_way _ _ _ HSL.out] at q; go_simp⟩) hHeld ?_
      show wpAnyH _ _ _ _ _ _ _ (Act.put _ (some 35) _) _
      simp only [Act.put, List.setIfInBounds_toArray, List.set_cons_zero, List.set_cons_succ]
      refine wpAnyH_take (i := 2) (v := .int .i64 (k : Int)) rfl (by kernel_rfl) (by kernel_rfl) (by kernel_rfl) (fun _ _ _ h => h) (Or.inl ⟨by rfl, fun w _ => by rfl⟩) hHeld ?_
      show wpAnyH _ _ _ _ _ _ _ (Act.put _ (some 36) _) _
      simp only [Act.put, List.setIfInBounds_toArray, List.set_cons_zero, List.set_cons_succ]
      refine wpAnyH_take (i := 3) (v := .pointer (some ⟨ga, oa + k * 32, none⟩)) rfl (by kernel_rfl) (by kernel_rfl) (by kernel_rfl) (fun _ _ _ h => h) (Or.inl ⟨by rfl, by intro w' h; go_simp⟩) hHeld ?_
      show wpAnyH _ _ _ _ _ _ _ (Act.put _ (some 37) _) _
      simp only [Act.put, List.setIfInBounds_toArray, List.set_cons_zero, List.set_cons_succ]
      refine wpAnyH_take (i := 4) (v := .agg (w8 (f k)).toArray) rfl (by kernel_rfl) (by kernel_rfl) (by kernel_rfl) (fun _ _ _ h => h) (yieldsIf_load_mid (by rfl) 29 (.tmp 37) rfl ga (oa + k * 32) rfl (w8 (f k)) _ (fun w' h => h.2.2.1) Tryd.underlying29 rfl HI2.out) hHeld ?_
      show wpAnyH _ _ _ _ _ _ _ (Act.put _ (some 38) _) _
      simp only [Act.put, List.setIfInBounds_toArray, List.set_cons_zero, List.set_cons_succ]
      refine wpAnyH_take (i := 5) (v := .pointer (some ⟨w.heap.size + 1, 1025, none⟩)) rfl (by kernel_rfl) (by kernel_rfl) (by kernel_rfl) (fun _ _ _ h => h) (Or.inl ⟨by rfl, by intro w' h; go_simp⟩) hHeld ?_
      show wpAnyH _ _ _ _ _ _ _ (Act.put _ (some 39) _) _
      simp only [Act.put, List.setIfInBounds_toArray, List.set_cons_zero, List.set_cons_succ]
      refine wpAnyH_take (i := 6) (v := .slice (some ⟨gb, ob, none⟩) m cb) rfl (by kernel_rfl) (by kernel_rfl) (by kernel_rfl) (fun _ _ _ h => h) (Or.inl ⟨by rfl, by intro w' h; have q := Blk.cell h.2.1 1025; rw [rsg_way _ _ _ HSL.out] at q; go_simp⟩) hHeld ?_
      show wpAnyH _ _ _ _ _ _ _ (Act.put _ (some 40) _) _
      simp only [Act.put, List.setIfInBounds_toArray, List.set_cons_zero, List.set_cons_succ]
      refine wpAnyH_take (i := 7) (v := .int .i64 (k : Int)) rfl (by kernel_rfl) (by kernel_rfl) (by kernel_rfl) (fun _ _ _ h => h) (Or.inl ⟨by rfl, fun w _ => by rfl⟩) hHeld ?_
      show wpAnyH _ _ _ _ _ _ _ (Act.put _ (some 41) _) _
      simp only [Act.put, List.setIfInBounds_toArray, List.set_cons_zero, List.set_cons_succ]
      refine wpAnyH_take (i := 8) (v := .pointer (some ⟨gb, ob + k * 32, none⟩)) rfl (by kernel_rfl) (by kernel_rfl) (by kernel_rfl) (fun _ _ _ h => h) (Or.inl ⟨by rfl, by intro w' h; go_simp⟩) hHeld ?_
      show wpAnyH _ _ _ _ _ _ _ (Act.put _ (some 42) _) _
      simp only [Act.put, List.setIfInBounds_toArray, List.set_cons_zero, List.set_cons_succ]
      refine wpAnyH_take (i := 9) (v := .agg (w8 (f k)).toArray) rfl (by kernel_rfl) (by kernel_rfl) (by kernel_rfl) (fun _ _ _ h => h) (yieldsIf_load_mid (by rfl) 29 (.tmp 42) rfl gb (ob + k * 32) rfl (w8 (f k)) _ (fun w' h => h.2.2.2) Tryd.underlying29 rfl HI2.out) hHeld ?_
      show wpAnyH _ _ _ _ _ _ _ (Act.put _ (some 43) _) _
      simp only [Act.put, List.setIfInBounds_toArray, List.set_cons_zero, List.set_cons_succ]
      refine wpAnyH_take (i := 10) (v := .bool false) rfl (by kernel_rfl) (by kernel_rfl) (by kernel_rfl) (fun _ _ _ h => h) (Or.inl ⟨by rfl, fun w' h => run_bin_op' rfl (by kernel_rfl) (w8 (f k)).toArray (w8 (f k)).toArray rfl rfl _ w' (HNE.out w')⟩) hHeld ?_
      show wpAnyH _ _ _ _ _ _ _ (Act.put _ (some 44) _) _
      simp only [Act.put, List.setIfInBounds_toArray, List.set_cons_zero, List.set_cons_succ]
      refine wpAnyH_done (by kernel_rfl) ?_ _
      have PX9 := PX0
      have QX9 := QX0
      have BX9 := BX0
      clear hHeld FX0 GX0 PX0 QX0 BX0
      go_wp2
      go_roundw
      case rel => exact ⟨k + 1, by omega, by go_num, PX9, QX9, BX9⟩
      case measure => simp [intOf]; omega
    · obtain rfl : k = m := by omega
      go_wp2
      go_ret
      exact ⟨rfl, Br.out⟩
end Go.Proofs.YtkonokjhpddbfaaDoor
