/-
  What a side may spend; an amount added to another one.
-/
import Derived.Test.YtkiifjkcpangfaaPacM
namespace Go.Proofs.Ytkiifjkcpangfaa
open Go.RowKit
set_option linter.unusedVariables false

theorem info24 : (Try.prog.info? 24).map (·.size) = some 2 := by kernel_rfl
/-- Whether a side has an amount free. -/
def spE (f : Int × Int) (amt : Int) : Int := if amt = 0 then 1 else if f.2 ≠ 0 then f.2 else if f.1 < amt then 28 else 0
theorem spE_arg (f : Int × Int) : spE f 0 = 1 := by unfold spE; rw [if_pos rfl]
theorem spE_e {f : Int × Int} {amt : Int} (h0 : amt ≠ 0) (h : f.2 ≠ 0) : spE f amt = f.2 := by unfold spE; rw [if_neg h0, if_pos h]
theorem spE_room {f : Int × Int} {amt : Int} (h0 : amt ≠ 0) (h : f.2 = 0) (h1 : f.1 < amt) : spE f amt = 28 := by unfold spE; rw [if_neg h0, if_neg (by simpa using h), if_pos h1]
theorem spE_ok {f : Int × Int} {amt : Int} (h0 : amt ≠ 0) (h : f.2 = 0) (h1 : ¬ f.1 < amt) : spE f amt = 0 := by unfold spE; rw [if_neg h0, if_neg (by simpa using h), if_neg h1]

set_option maxHeartbeats 4000000 in
theorem raise_ok (g i : Nat) (v amt : Int) (L : List Value) (t : TypeId) (w : World) (hB : Blk w g t L) (hv : L[i]? = some (.int .u64 v)) (h1 : Word v) (h2 : Word amt) (h : v + amt < 18446744073709551616) :
    Calls Try.prog 51 #[.pointer (some ⟨g, i, none⟩), .int .u64 amt] w fun e w' => e = .returned (.int .i64 0) ∧ w' = w.setCell ⟨g, i, none⟩ (.int .u64 (v + amt)) := by
  have c := hB.cell i
  rw [hv] at c
  have f := hB.frozen i
  have H := Lib.hid h
  clear hB hv h
  go_enter Try.func51, Try.ntmps51
  go_wp2_with (go_at_call 34; refine (add_ok _ _ _ h1 h2 (by have := H.out; omega)).mono ?_; rintro e w' ⟨rfl, rfl⟩)
  go_ret
  exact ⟨rfl, rfl⟩
set_option maxHeartbeats 4000000 in
theorem raise_over (g i : Nat) (v amt : Int) (L : List Value) (t : TypeId) (w : World) (hB : Blk w g t L) (hv : L[i]? = some (.int .u64 v)) (h1 : Word v) (h2 : Word amt) (h : 18446744073709551616 ≤ v + amt) :
    Calls Try.prog 51 #[.pointer (some ⟨g, i, none⟩), .int .u64 amt] w fun e w' => e = .returned (.int .i64 11) ∧ w' = w := by
  have c := hB.cell i
  rw [hv] at c
  have H := Lib.hid h
  clear hB hv h
  go_enter Try.func51, Try.ntmps51
  go_wp2_with (go_at_call 34; refine (add_over _ _ _ h1 h2 (by have := H.out; omega)).mono ?_; rintro e w' ⟨rfl, rfl⟩)
  go_ret
  exact ⟨rfl, rfl⟩

set_option maxRecDepth 100000 in
set_option maxHeartbeats 4000000 in
theorem afford_any (ch rd m0 m1 t0 t1 : Int) (a : Option Addr) (n cap : Nat) (cs : List Cnd) (g : Nat) (p0 p1 side amt : Int) (w : World) (hS : Blk w g 31 [.int .u32 ch, .int .u64 rd, .int .u64 m0, .int .u64 m1, .int .u64 t0, .int .u64 t1, .slice a n cap]) (hC : CRow w a cs) (hl : cs.length = n) (hn : n ≤ 1000) (hp0 : Word p0) (hp1 : Word p1) (hO : St.Ok ⟨ch, rd, m0, m1, t0, t1, cs⟩) (hamt : Word amt) :
    Calls Try.prog 53 #[.pointer (some ⟨g, 0, none⟩), .agg #[.int .u64 p0, .int .u64 p1], .int .i64 side, .int .u64 amt] w fun e w' => e = .returned (.int .i64 (spE (freeF ⟨ch, rd, m0, m1, t0, t1, cs⟩ p0 p1 side) amt)) ∧ Below w.heap.size w w' := by
  have HB : Hid (Below w.heap.size w (w.alloc (.cells #[.int .u64 p0, .int .u64 p1] 24))) := Lib.hid ((Below.refl _ _).alloc (Nat.le_refl _) _)
  by_cases h0 : amt = 0
  · subst h0
    have HT := Lib.hid (spE_arg (freeF ⟨ch, rd, m0, m1, t0, t1, cs⟩ p0 p1 side))
    go_enter Try.func53, Try.ntmps53
    go_wp2
    go_ret
    exact ⟨by rw [HT.out]; rfl, HB.out⟩
  · have b0 : (amt == 0) = false := by simpa using h0
    have H0 := Lib.hid h0
    obtain ⟨fv, hfv⟩ : ∃ x, (freeF ⟨ch, rd, m0, m1, t0, t1, cs⟩ p0 p1 side).1 = x := ⟨_, rfl⟩
    obtain ⟨fe, hfe⟩ : ∃ x, (freeF ⟨ch, rd, m0, m1, t0, t1, cs⟩ p0 p1 side).2 = x := ⟨_, rfl⟩
    have HF : Hid (∀ X, Below w.heap.size w X → Calls Try.prog 13 #[.agg #[.int .u32 ch, .int .u64 rd, .int .u64 m0, .int .u64 m1, .int .u64 t0, .int .u64 t1, .slice a n cap], .agg #[.int .u64 p0, .int .u64 p1], .int .i64 side] X fun e w' => e = .returned (.tuple #[.int .u64 fv, .int .i64 fe]) ∧ Below X.heap.size X w') := Lib.hid (fun X hX => by
      have := free_any ch rd m0 m1 t0 t1 a n cap cs p0 p1 side X (hC.below hX) hl hn hp0 hp1 hO
      rwa [hfv, hfe] at this)
    have HFF : Hid (freeF ⟨ch, rd, m0, m1, t0, t1, cs⟩ p0 p1 side = (fv, fe)) := Lib.hid (by rw [← hfv, ← hfe])
    have hS2 := hS.alloc (.cells #[.int .u64 p0, .int .u64 p1] 24)
    have S : Hid (Blk (w.alloc (.cells #[.int .u64 p0, .int .u64 p1] 24)) g 31 [.int .u32 ch, .int .u64 rd, .int .u64 m0, .int .u64 m1, .int .u64 t0, .int .u64 t1, .slice a n cap]) := Lib.hid hS2
    have P : Hid (Blk (w.alloc (.cells #[.int .u64 p0, .int .u64 p1] 24)) w.heap.size 24 [.int .u64 p0, .int .u64 p1]) := Lib.hid (Blk.mk_ rfl)
    clear hfv hfe h0 hC hl hO hS hS2
    go_enter Try.func53, Try.ntmps53
    go_upto_region 3 with fail
    have BB := HB
    clear HB
    generalize w.alloc (.cells #[.int .u64 p0, .int .u64 p1] 24) = V at BB S P ⊢
    generalize hgp : w.heap.size = gp at P ⊢
    have HGP := Lib.hid hgp
    clear hgp b0
    have hBz : Below V.heap.size V V.drew := below_drewN (Below.refl _ _) 1
    have BBX0 : Hid (Below w.heap.size w V.drew) := Lib.hid (BB.out.trans (hBz.mono BB.out.size))
    have SX0 : Hid (Blk V.drew g 31 [.int .u32 ch, .int .u64 rd, .int .u64 m0, .int .u64 m1, .int .u64 t0, .int .u64 t1, .slice a n cap]) := Lib.hid (S.out.below hBz S.out.lt)
    have PX0 : Hid (Blk V.drew gp 24 [.int .u64 p0, .int .u64 p1]) := Lib.hid (P.out.below hBz P.out.lt)
    clear hBz
    refine wp_region_held_drew (S := fun w' => Blk w' g 31 [.int .u32 ch, .int .u64 rd, .int .u64 m0, .int .u64 m1, .int .u64 t0, .int .u64 t1, .slice a n cap] ∧ Blk w' gp 24 [.int .u64 p0, .int .u64 p1]) (by kernel_rfl) (⟨SX0.out, PX0.out⟩) (fun hHeld => ?_)
    generalize V.drew = X0 at hHeld BBX0 SX0 PX0 ⊢
    refine wpAnyH_take (i := 0) (v := .pointer (some ⟨g, 0, none⟩)) rfl (by kernel_rfl) (by kernel_rfl) (by kernel_rfl) (fun _ _ _ h => h) (Or.inl ⟨by rfl, fun w _ => by rfl⟩) hHeld ?_
    show wpAnyH _ _ _ _ _ _ _ (Act.put _ (some 14) _) _
    simp only [Act.put, List.setIfInBounds_toArray, List.set_cons_zero, List.set_cons_succ]
    refine wpAnyH_take (i := 1) (v := .pointer (some ⟨g, 0, none⟩)) rfl (by kernel_rfl) (by kernel_rfl) (by kernel_rfl) (fun _ _ _ h => h) (Or.inl ⟨by rfl, by intro w' h; go_simp⟩) hHeld ?_
    show wpAnyH _ _ _ _ _ _ _ (Act.put _ (some 15) _) _
    simp only [Act.put, List.setIfInBounds_toArray, List.set_cons_zero, List.set_cons_succ]
    refine wpAnyH_take (i := 2) (v := .agg #[.int .u32 ch, .int .u64 rd, .int .u64 m0, .int .u64 m1, .int .u64 t0, .int .u64 t1, .slice a n cap]) rfl (by kernel_rfl) (by kernel_rfl) (by kernel_rfl) (fun _ _ _ h => h) (yieldsIf_load_mid (by rfl) 31 (.tmp 15) rfl g 0 rfl [.int .u32 ch, .int .u64 rd, .int .u64 m0, .int .u64 m1, .int .u64 t0, .int .u64 t1, .slice a n cap] _ (fun w h => Blk.all h.1) Try.underlying31 rfl info31) hHeld ?_
    show wpAnyH _ _ _ _ _ _ _ (Act.put _ (some 16) _) _
    simp only [Act.put, List.setIfInBounds_toArray, List.set_cons_zero, List.set_cons_succ]
    refine wpAnyH_take (i := 3) (v := .agg #[.int .u64 p0, .int .u64 p1]) rfl (by kernel_rfl) (by kernel_rfl) (by kernel_rfl) (fun _ _ _ h => h) (yieldsIf_load_mid (by rfl) 24 (.tmp 5) rfl gp 0 rfl [.int .u64 p0, .int .u64 p1] _ (fun w h => Blk.all h.2) Try.underlying24 rfl info24) hHeld ?_
    show wpAnyH _ _ _ _ _ _ _ (Act.put _ (some 17) _) _
    simp only [Act.put, List.setIfInBounds_toArray, List.set_cons_zero, List.set_cons_succ]
    refine wpAnyH_take (i := 4) (v := .int .i64 side) rfl (by kernel_rfl) (by kernel_rfl) (by kernel_rfl) (fun _ _ _ h => h) (Or.inl ⟨by rfl, fun w _ => by rfl⟩) hHeld ?_
    show wpAnyH _ _ _ _ _ _ _ (Act.put _ (some 18) _) _
    simp only [Act.put, List.setIfInBounds_toArray, List.set_cons_zero, List.set_cons_succ]
    refine wpAnyH_ready (rs := [5]) (by kernel_rfl) (by simp) ?_
    refine AllReadyH.cons rfl (fun K hK => ?_) AllReadyH.nil
    refine step_call rfl 13 #[.tmp 16, .tmp 17, .tmp 18] #[31, 24, 36] rfl #[.agg #[.int .u32 ch, .int .u64 rd, .int .u64 m0, .int .u64 m1, .int .u64 t0, .int .u64 t1, .slice a n cap], .agg #[.int .u64 p0, .int .u64 p1], .int .i64 side] (by simp [Act.eval]) (by go_simp) (HF.out X0 BBX0.out) ?_
    rintro e X1 ⟨rfl, hB⟩
    have BBX1 : Hid (Below w.heap.size w X1) := Lib.hid (BBX0.out.trans (hB.mono BBX0.out.size))
    have SX1 : Hid (Blk X1 g 31 [.int .u32 ch, .int .u64 rd, .int .u64 m0, .int .u64 m1, .int .u64 t0, .int .u64 t1, .slice a n cap]) := Lib.hid (SX0.out.below hB SX0.out.lt)
    have PX1 : Hid (Blk X1 gp 24 [.int .u64 p0, .int .u64 p1]) := Lib.hid (PX0.out.below hB PX0.out.lt)
    clear BBX0 SX0 PX0 hB
    refine ⟨_, rfl, hK.out _ _ (⟨SX1.out, PX1.out⟩) (fun hHeld => ?_)⟩
    clear hK K
    show wpAnyH _ _ _ _ _ _ _ (Act.put _ (some 19) _) _
    simp only [Act.put, List.setIfInBounds_toArray, List.set_cons_zero, List.set_cons_succ]
    refine wpAnyH_take (i := 6) (v := .tuple #[.int .u64 fv, .int .i64 fe]) rfl (by kernel_rfl) (by kernel_rfl) (by kernel_rfl) (fun _ _ _ h => h) (Or.inl ⟨by rfl, fun w _ => by rfl⟩) hHeld ?_
    show wpAnyH _ _ _ _ _ _ _ (Act.put _ (some 13) _) _
    simp only [Act.put, List.setIfInBounds_toArray, List.set_cons_zero, List.set_cons_succ]
    refine wpAnyH_take (i := 7) (v := .int .u64 fv) rfl (by kernel_rfl) (by kernel_rfl) (by kernel_rfl) (fun _ _ _ h => h) (Or.inl ⟨by rfl, by intro w' h; go_simp⟩) hHeld ?_
    show wpAnyH _ _ _ _ _ _ _ (Act.put _ (some 20) _) _
    simp only [Act.put, List.setIfInBounds_toArray, List.set_cons_zero, List.set_cons_succ]
    refine wpAnyH_take (i := 8) (v := .int .i64 fe) rfl (by kernel_rfl) (by kernel_rfl) (by kernel_rfl) (fun _ _ _ h => h) (Or.inl ⟨by rfl, by intro w' h; go_simp⟩) hHeld ?_
    show wpAnyH _ _ _ _ _ _ _ (Act.put _ (some 21) _) _
    simp only [Act.put, List.setIfInBounds_toArray, List.set_cons_zero, List.set_cons_succ]
    refine wpAnyH_take (i := 9) (v := .int .u64 fv) rfl (by kernel_rfl) (by kernel_rfl) (by kernel_rfl) (fun _ _ _ h => h) (Or.inl ⟨by rfl, fun w _ => by rfl⟩) hHeld ?_
    show wpAnyH _ _ _ _ _ _ _ (Act.put _ (some 9) _) _
    simp only [Act.put, List.setIfInBounds_toArray, List.set_cons_zero, List.set_cons_succ]
    refine wpAnyH_take (i := 10) (v := .int .i64 fe) rfl (by kernel_rfl) (by kernel_rfl) (by kernel_rfl) (fun _ _ _ h => h) (Or.inl ⟨by rfl, fun w _ => by rfl⟩) hHeld ?_
    show wpAnyH _ _ _ _ _ _ _ (Act.put _ (some 10) _) _
    simp only [Act.put, List.setIfInBounds_toArray, List.set_cons_zero, List.set_cons_succ]
    refine wpAnyH_done (by kernel_rfl) ?_ _
    clear hHeld
    by_cases he : fe = 0
    · subst he
      by_cases hr : fv < amt
      · have HT := Lib.hid (spE_room (f := (fv, 0)) H0.out rfl hr)
        go_wp2
        go_ret
        exact ⟨by rw [HFF.out, HT.out]; rfl, BBX1.out⟩
      · have HT := Lib.hid (spE_ok (f := (fv, 0)) H0.out rfl hr)
        go_wp2
        go_ret
        exact ⟨by rw [HFF.out, HT.out]; rfl, BBX1.out⟩
    · have b1 : (fe != 0) = true := by simpa using he
      have HT := Lib.hid (spE_e (f := (fv, fe)) H0.out he)
      clear he
      go_wp2
      go_ret
      exact ⟨by rw [HFF.out, HT.out]; rfl, BBX1.out⟩
end Go.Proofs.Ytkiifjkcpangfaa
