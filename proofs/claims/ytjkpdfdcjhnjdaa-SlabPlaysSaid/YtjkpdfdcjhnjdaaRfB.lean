/-
  The document's slab: Append, Sync, Erase, Read.
-/
import Derived.Test.YtjkpdfdcjhnjdaaRfA
import Derived.Test.YtjkpdfdcjhnjdaaSlE
namespace Go.Proofs.Ytjkpdfdcjhnjdaa
open Go.RowKit
set_option linter.unusedVariables false

theorem lay0 (w : World) : (Instr.buildSlice 27 0 #[]).run Try.prog w = .ok (.slice (some ⟨w.heap.size, 0, none⟩) 0 0) (w.alloc (.cells #[] 5)) := by kernel_rfl

def RPost (S : Nat → Prop) (bm : Nat) (E : Int) (s : SS) (w : World) (e : Ending) (w' : World) : Prop := e = .returned (.int .i64 E) ∧ RefAt w' S bm s ∧ OnlyS (fun i => i = bm) w w'
theorem synS_tick (s : SS) (h1 : s.dn = false) (h2 : s.l.length ≤ 262144) : synS s = if s.fu = 0 then tick s else ⟨s.l, s.l.length, up s.st, burn s.fu, false⟩ := by
  obtain ⟨h3, h4⟩ := tick_is s 0 h1 (by omega)
  unfold synS
  rw [h3, h4]
  by_cases hf : s.fu = 0
  · rw [if_pos hf, if_neg (by decide), if_pos hf]
  · rw [if_neg hf, if_pos rfl, if_neg hf]
    unfold tick
    rw [if_neg hf]
theorem eraS_tick (s : SS) (h1 : s.dn = false) (h2 : s.l.length ≤ 262144) : eraS s = if s.fu = 0 then tick s else ⟨[], 0, up s.st, burn s.fu, false⟩ := by
  obtain ⟨h3, h4⟩ := tick_is s 0 h1 (by omega)
  unfold eraS
  rw [h3, h4]
  by_cases hf : s.fu = 0
  · rw [if_pos hf, if_neg (by decide), if_pos hf]
  · rw [if_neg hf, if_pos rfl, if_neg hf]
    unfold tick
    rw [if_neg hf]
theorem down_is (s : SS) (n : Nat) (h1 : s.dn = true) : stepS s n = s ∧ stepE s n = 5 := by
  unfold stepS stepE
  rw [if_pos h1, if_pos h1]
  exact ⟨rfl, rfl⟩

set_option maxRecDepth 100000 in
set_option maxHeartbeats 4000000 in
theorem rsyn_any (S : Nat → Prop) (bm : Nat) (s : SS) (w : World) (h : RefAt w S bm s) (hS : ∀ i, S i → i < w.heap.size) (hk : s.k ≤ s.l.length) (hm : s.l.length ≤ 262144) (hf1 : -1 ≤ s.fu) (hf2 : s.fu ≤ 9223372036854775807) :
    Calls Try.prog 22 #[.pointer (some ⟨bm, 0, none⟩)] w (RPost S bm (stepE s 0) (synS s) w) := by
  have H := Lib.hid h
  have hc4 : w.cell? ⟨bm, 4, none⟩ = some (.bool s.dn) := by obtain ⟨⟨vS, vL, hT, _⟩, _⟩ := h; exact hT.cell 4
  by_cases hd : s.dn = true
  · obtain ⟨e1, e2⟩ := down_is s 0 hd
    have HE : Hid (stepE s 0 = 5) := Lib.hid e2
    have HY : Hid (synS s = s) := Lib.hid (by unfold synS; rw [if_neg (by rw [e2]; decide), e1])
    rw [hd] at hc4
    clear h hd e1 e2
    go_enter Try.func22, Try.ntmps22
    go_wp2
    go_ret
    exact ⟨by rw [HE.out]; rfl, by rw [HY.out]; exact H.out, OnlyS.refl _ _⟩
  · have hd' : s.dn = false := by cases e : s.dn; rfl; exact absurd e hd
    have HK := Lib.hid (rstep_any S bm s w h hd' hf1 hf2)
    obtain ⟨e1, e2⟩ := tick_is s 0 hd' (by omega)
    have HE := Lib.hid e2
    have HY := Lib.hid (synS_tick s hd' hm)
    rw [hd'] at hc4
    have HSZ := Lib.hid hS
    have HKL := Lib.hid hk
    have HM := Lib.hid hm
    clear h hd hd' e1 e2 hS hk hm hf1 hf2
    by_cases hf : s.fu = 0
    · rw [hf] at HK
      have HF := Lib.hid hf
      clear hf
      go_enter Try.func22, Try.ntmps22
      go_wp2_with fail
      refine HK.out.mono ?_
      rintro e w1 ⟨rfl, hA, ho⟩
      have HA := Lib.hid hA
      have HO := Lib.hid ho
      clear hA ho HK
      go_wp2
      go_ret
      exact ⟨by rw [HE.out, HF.out]; rfl, by rw [HY.out, if_pos HF.out]; exact HA.out, HO.out⟩
    · have hfd : decide (s.fu = 0) = false := decide_eq_false hf
      rw [hfd] at HK
      have HF := Lib.hid hf
      clear hf hfd
      go_enter Try.func22, Try.ntmps22
      go_wp2_with fail
      refine HK.out.mono ?_
      rintro e V ⟨rfl, hA, ho⟩
      have HO := Lib.hid ho
      have hVz := ho.size
      obtain ⟨⟨vS, vL, hT, ⟨AS, cS, rfl, hP, hAS⟩, ⟨AL, cL, rfl, hQ, hAL⟩⟩, hoff⟩ := hA
      rw [tick_l, tick_k] at hP hQ hT
      have ht : tick s = ⟨s.l, s.k, up s.st, burn s.fu, false⟩ := by unfold tick; rw [if_neg HF.out]
      rw [ht] at hT
      obtain ⟨l, k, st0, fu0, dn⟩ := s
      simp only at hT hP hQ HKL HM HY HF HE
      obtain ⟨st, hst⟩ : ∃ x, up st0 = x := ⟨_, rfl⟩
      obtain ⟨fu, hfu⟩ : ∃ x, burn fu0 = x := ⟨_, rfl⟩
      obtain ⟨p, hp⟩ : ∃ p, l.take k = p := ⟨_, rfl⟩
      obtain ⟨q, hq⟩ : ∃ q, l.drop k = q := ⟨_, rfl⟩
      obtain ⟨nS, hnS⟩ : ∃ n, p.length = n := ⟨_, rfl⟩
      obtain ⟨nL, hnL⟩ : ∃ n, q.length = n := ⟨_, rfl⟩
      obtain ⟨N, hN⟩ : ∃ n, (p ++ q).length = n := ⟨_, rfl⟩
      have hpq : p ++ q = l := by rw [← hp, ← hq]; exact List.take_append_drop k l
      rw [hp] at hT hP
      rw [hq] at hT hQ
      rw [hst, hfu, hnS, hnL] at hT
      have TV := Lib.hid hT
      have PV := Lib.hid hP
      have QV := Lib.hid hQ
      have BV : Hid (Below V.heap.size V V) := Lib.hid (Below.refl _ _)
      have CV : Hid (V.cell? ⟨bm, 1, none⟩ = some (.slice AL nL cL)) := Lib.hid (hT.cell 1)
      have HBM := Lib.hid hT.lt
      have HAS : Hid (∀ a, AS = some a → a.block < V.heap.size) := Lib.hid (fun a ha => (hAS a ha).1)
      have HAL : Hid (∀ a, AL = some a → a.block < V.heap.size) := Lib.hid (fun a ha => (hAL a ha).1)
      have HNS : Hid (nS = p.length) := Lib.hid hnS.symm
      have HNL : Hid (nL = q.length) := Lib.hid hnL.symm
      have HNN := Lib.hid hN
      have HLE : Hid (p.length + q.length ≤ 262144) := Lib.hid (by rw [← List.length_append, hpq]; exact HM.out)
      have HFIN : Hid (∀ (b9 : World) (v9 : Value), OnlyS (fun i => i = bm) V b9 → Blk b9 bm 48 [v9, .slice none 0 0, .int .i64 fu, .int .i64 st, .bool false] → Own b9 V.heap.size v9 ([] ++ p ++ q) → RPost S bm (stepE ⟨l, k, st0, fu0, dn⟩ 0) (synS ⟨l, k, st0, fu0, dn⟩) w (.returned (.int .i64 0)) b9) := Lib.hid (by
        intro b9 v9 ho9 hb9 hw9
        refine ⟨by rw [HE.out, if_neg HF.out], ?_, HO.out.trans ho9⟩
        rw [HY.out, if_neg HF.out]
        refine ⟨⟨v9, .slice none 0 0, by rw [← hst, ← hfu] at hb9; exact hb9, ?_, ?_⟩, hoff⟩
        · rw [show List.take l.length l = l from List.take_length, ← hpq]
          refine RdS.own hw9 (fun i hi h9 => ?_)
          rcases h9 with h9 | h9
          · have := HSZ.out i h9; omega
          · have := HBM.out; omega
        · rw [show List.drop l.length l = [] from List.drop_length]
          exact RdS.nil _ _)
      clear hT hP hQ hAS hAL hoff ht hst hfu hp hq hnS hnL hN hpq HKL HM HY HF HE HO HSZ HK
      go_upto_region 3 with fail
      have hBz : Below V.heap.size V V.drew := below_drewN (Below.refl _ _) 1
      have CX0 : Hid (V.drew.cell? ⟨bm, 1, none⟩ = some (.slice AL nL cL)) := Lib.hid ((hBz.cell (p := ⟨bm, 1, none⟩) (World.block_lt_of_cell? _ _ CV.out)).trans CV.out)
      have TX0 : Hid (Blk V.drew bm 48 [.slice AS nS cS, .slice AL nL cL, .int .i64 fu, .int .i64 st, .bool false]) := Lib.hid (TV.out.below hBz TV.out.lt)
      have PX0 : Hid (Src V.drew AS cS p) := Lib.hid (PV.out.below hBz)
      have QX0 : Hid (Src V.drew AL cL q) := Lib.hid (QV.out.below hBz)
      have BX0 : Hid (Below V.heap.size V V.drew) := Lib.hid (BV.out.trans (hBz.mono BV.out.size))
      clear hBz
      refine wp_region_held_drew (S := fun w' => w'.cell? ⟨bm, 1, none⟩ = some (.slice AL nL cL)) (by kernel_rfl) (CX0.out) (fun hHeld => ?_)
      generalize V.drew = X0 at hHeld CX0 TX0 PX0 QX0 BX0 ⊢
      refine wpAnyH_take (i := 0) (v := .pointer (some ⟨bm, 0, none⟩)) rfl (by kernel_rfl) (by kernel_rfl) (by kernel_rfl) (fun _ _ _ h => h) (Or.inl ⟨by rfl, fun w _ => by rfl⟩) hHeld ?_
      show wpAnyH _ _ _ _ _ _ _ (Act.put _ (some 12) _) _
      simp only [Act.put, List.setIfInBounds_toArray, List.set_cons_zero, List.set_cons_succ]
      refine wpAnyH_take (i := 2) (v := .pointer (some ⟨bm, 0, none⟩)) rfl (by kernel_rfl) (by kernel_rfl) (by kernel_rfl) (fun _ _ _ h => h) (Or.inl ⟨by rfl, fun w _ => by rfl⟩) hHeld ?_
      show wpAnyH _ _ _ _ _ _ _ (Act.put _ (some 14) _) _
      simp only [Act.put, List.setIfInBounds_toArray, List.set_cons_zero, List.set_cons_succ]
      refine wpAnyH_take (i := 3) (v := .pointer (some ⟨bm, 0, none⟩)) rfl (by kernel_rfl) (by kernel_rfl) (by kernel_rfl) (fun _ _ _ h => h) (Or.inl ⟨by rfl, by intro w' h; go_simp⟩) hHeld ?_
      show wpAnyH _ _ _ _ _ _ _ (Act.put _ (some 15) _) _
      simp only [Act.put, List.setIfInBounds_toArray, List.set_cons_zero, List.set_cons_succ]
      refine wpAnyH_take (i := 4) (v := .pointer (some ⟨bm, 0, none⟩)) rfl (by kernel_rfl) (by kernel_rfl) (by kernel_rfl) (fun _ _ _ h => h) (Or.inl ⟨by rfl, by intro w' h; go_simp⟩) hHeld ?_
      show wpAnyH _ _ _ _ _ _ _ (Act.put _ (some 16) _) _
      simp only [Act.put, List.setIfInBounds_toArray, List.set_cons_zero, List.set_cons_succ]
      refine wpAnyH_take (i := 7) (v := .pointer (some ⟨bm, 0, none⟩)) rfl (by kernel_rfl) (by kernel_rfl) (by kernel_rfl) (fun _ _ _ h => h) (Or.inl ⟨by rfl, fun w _ => by rfl⟩) hHeld ?_
      show wpAnyH _ _ _ _ _ _ _ (Act.put _ (some 19) _) _
      simp only [Act.put, List.setIfInBounds_toArray, List.set_cons_zero, List.set_cons_succ]
      refine wpAnyH_take (i := 8) (v := .pointer (some ⟨bm, 0, none⟩)) rfl (by kernel_rfl) (by kernel_rfl) (by kernel_rfl) (fun _ _ _ h => h) (Or.inl ⟨by rfl, by intro w' h; go_simp⟩) hHeld ?_
      show wpAnyH _ _ _ _ _ _ _ (Act.put _ (some 20) _) _
      simp only [Act.put, List.setIfInBounds_toArray, List.set_cons_zero, List.set_cons_succ]
      refine wpAnyH_take (i := 9) (v := .pointer (some ⟨bm, 1, none⟩)) rfl (by kernel_rfl) (by kernel_rfl) (by kernel_rfl) (fun _ _ _ h => h) (Or.inl ⟨by rfl, by intro w' h; go_simp⟩) hHeld ?_
      show wpAnyH _ _ _ _ _ _ _ (Act.put _ (some 21) _) _
      simp only [Act.put, List.setIfInBounds_toArray, List.set_cons_zero, List.set_cons_succ]
      refine wpAnyH_take (i := 10) (v := .slice AL nL cL) rfl (by kernel_rfl) (by kernel_rfl) (by kernel_rfl) (fun _ _ _ h => h) (Or.inl ⟨by rfl, by intro w' h; go_simp⟩) hHeld ?_
      show wpAnyH _ _ _ _ _ _ _ (Act.put _ (some 22) _) _
      simp only [Act.put, List.setIfInBounds_toArray, List.set_cons_zero, List.set_cons_succ]
      refine wpAnyH_ready (rs := [1, 5]) (by kernel_rfl) (by simp) ?_
      refine AllReadyH.cons rfl (fun K hK => ?_) (AllReadyH.cons rfl (fun K hK => ?_) AllReadyH.nil)
      · refine step_lay rfl 27 0 #[] rfl #[] (by simp) (.slice (some ⟨X0.heap.size, 0, none⟩) 0 0) (X0.alloc (.cells #[] 5)) (lay0 X0) ?_
        have hB : Below X0.heap.size X0 (X0.alloc (.cells #[] 5)) := (Below.refl _ _).alloc (Nat.le_refl _) _
        have hL := (Own.lit0 X0).base (BX0.out.size)
        generalize X0.alloc (.cells #[] 5) = X1 at hB hL ⊢
        generalize X0.heap.size = gl at hL ⊢
        have CX1 : Hid (X1.cell? ⟨bm, 1, none⟩ = some (.slice AL nL cL)) := Lib.hid ((hB.cell (p := ⟨bm, 1, none⟩) (World.block_lt_of_cell? _ _ CX0.out)).trans CX0.out)
        have TX1 : Hid (Blk X1 bm 48 [.slice AS nS cS, .slice AL nL cL, .int .i64 fu, .int .i64 st, .bool false]) := Lib.hid (TX0.out.below hB TX0.out.lt)
        have PX1 : Hid (Src X1 AS cS p) := Lib.hid (PX0.out.below hB)
        have QX1 : Hid (Src X1 AL cL q) := Lib.hid (QX0.out.below hB)
        have BX1 : Hid (Below V.heap.size V X1) := Lib.hid (BX0.out.trans (hB.mono BX0.out.size))
        have GX1 : Hid (Own X1 V.heap.size (.slice (some ⟨gl, 0, none⟩) 0 0) []) := Lib.hid (hL)
        clear CX0 TX0 PX0 QX0 BX0 hB hL
        refine hK.out _ _ (CX1.out) (fun hHeld => ?_)
        clear hK K
        show wpAnyH _ _ _ _ _ _ _ (Act.put _ (some 13) _) _
        simp only [Act.put, List.setIfInBounds_toArray, List.set_cons_zero, List.set_cons_succ]
        refine wpAnyH_ready (rs := [5]) (by kernel_rfl) (by simp) ?_
        refine AllReadyH.cons rfl (fun K hK => ?_) AllReadyH.nil
        refine step_val rfl (.slice AS nS cS) X1 (by have q9 := TX1.out.cell 0; go_simp) ?_
        refine hK.out _ _ (CX1.out) (fun hHeld => ?_)
        clear hK K
        show wpAnyH _ _ _ _ _ _ _ (Act.put _ (some 17) _) _
        simp only [Act.put, List.setIfInBounds_toArray, List.set_cons_zero, List.set_cons_succ]
        refine wpAnyH_ready (rs := [6]) (by kernel_rfl) (by simp) ?_
        refine AllReadyH.cons rfl (fun K hK => ?_) AllReadyH.nil
        refine step_app rfl (.tmp 13) (.tmp 17) 27 27 rfl Try.underlying27 Try.underlying27 V.heap.size _ [] p rfl GX1.out AS nS cS rfl HNS.out PX1.out (by simp; have := HLE.out; omega) BX1.out.size ?_
        intro va X3 hOw hg hL2
        have hB : Below V.heap.size X1 X3 := (Below.refl _ _).grown hg BX1.out.size (fun q9 hq9 => (GX1.out.lt q9 hq9).1)
        have GX3 : Hid (Own X3 V.heap.size va ([] ++ p)) := Lib.hid hOw
        have hbm : bm < V.heap.size := HBM.out
        have TX3 := Lib.hid (TX1.out.grown hg (fun e => by have := (GX1.out.lt bm e.symm).1; omega))
        have PX3 : Hid (Src X3 AS cS p) := Lib.hid (PX1.out.onlyS ((OnlyS.refl (fun i => V.heap.size ≤ i) X1).grown hg (fun g9 h9 => .inl (GX1.out.lt g9 h9).1)) (fun a ha h9 => by have := HAS.out a ha; omega))
        have QX3 : Hid (Src X3 AL cL q) := Lib.hid (QX1.out.onlyS ((OnlyS.refl (fun i => V.heap.size ≤ i) X1).grown hg (fun g9 h9 => .inl (GX1.out.lt g9 h9).1)) (fun a ha h9 => by have := HAL.out a ha; omega))
        have BX3 : Hid (Below V.heap.size V X3) := Lib.hid (BX1.out.trans hB)
        have CX3 : Hid (X3.cell? ⟨bm, 1, none⟩ = some (.slice AL nL cL)) := Lib.hid (TX3.out.cell 1)
        obtain ⟨Aa, ca, hva, _⟩ := hOw.src
        rw [List.nil_append, ← HNS.out] at hva
        subst hva
        clear hB hOw hg hL2 hbm GX1 TX1 PX1 QX1 BX1 CX1
        refine hK.out _ _ (CX3.out) (fun hHeld => ?_)
        clear hK K
        show wpAnyH _ _ _ _ _ _ _ (Act.put _ (some 18) _) _
        simp only [Act.put, List.setIfInBounds_toArray, List.set_cons_zero, List.set_cons_succ]
        refine wpAnyH_ready (rs := [11]) (by kernel_rfl) (by simp) ?_
        refine AllReadyH.cons rfl (fun K hK => ?_) AllReadyH.nil
        refine step_app rfl (.tmp 18) (.tmp 22) 27 27 rfl Try.underlying27 Try.underlying27 V.heap.size _ ([] ++ p) q rfl GX3.out AL nL cL rfl HNL.out QX3.out (by simp; have := HLE.out; omega) BX3.out.size ?_
        intro va X4 hOw hg hL2
        have hB : Below V.heap.size X3 X4 := (Below.refl _ _).grown hg BX3.out.size (fun q9 hq9 => (GX3.out.lt q9 hq9).1)
        have GX4 : Hid (Own X4 V.heap.size va ([] ++ p ++ q)) := Lib.hid hOw
        have hbm : bm < V.heap.size := HBM.out
        have TX4 := Lib.hid (TX3.out.grown hg (fun e => by have := (GX3.out.lt bm e.symm).1; omega))
        have PX4 : Hid (Src X4 AS cS p) := Lib.hid (PX3.out.onlyS ((OnlyS.refl (fun i => V.heap.size ≤ i) X3).grown hg (fun g9 h9 => .inl (GX3.out.lt g9 h9).1)) (fun a ha h9 => by have := HAS.out a ha; omega))
        have QX4 : Hid (Src X4 AL cL q) := Lib.hid (QX3.out.onlyS ((OnlyS.refl (fun i => V.heap.size ≤ i) X3).grown hg (fun g9 h9 => .inl (GX3.out.lt g9 h9).1)) (fun a ha h9 => by have := HAL.out a ha; omega))
        have BX4 : Hid (Below V.heap.size V X4) := Lib.hid (BX3.out.trans hB)
        have CX4 : Hid (X4.cell? ⟨bm, 1, none⟩ = some (.slice AL nL cL)) := Lib.hid (TX4.out.cell 1)
        obtain ⟨Ab, cb, hvb, _⟩ := hOw.src
        rw [List.nil_append, HNN.out] at hvb
        subst hvb
        clear hB hOw hg hL2 hbm GX3 TX3 PX3 QX3 BX3 CX3
        refine hK.out _ _ (CX4.out) (fun hHeld => ?_)
        clear hK K
        show wpAnyH _ _ _ _ _ _ _ (Act.put _ (some 23) _) _
        simp only [Act.put, List.setIfInBounds_toArray, List.set_cons_zero, List.set_cons_succ]
        refine wpAnyH_take (i := 12) (v := .pointer (some ⟨bm, 0, none⟩)) rfl (by kernel_rfl) (by kernel_rfl) (by kernel_rfl) (fun _ _ _ h => h) (Or.inl ⟨by rfl, by intro w' h; go_simp⟩) hHeld ?_
        show wpAnyH _ _ _ _ _ _ _ (Act.put _ (some 24) _) _
        simp only [Act.put, List.setIfInBounds_toArray, List.set_cons_zero, List.set_cons_succ]
        refine wpAnyH_take (i := 13) (v := .pointer (some ⟨bm, 0, none⟩)) rfl (by kernel_rfl) (by kernel_rfl) (by kernel_rfl) (fun _ _ _ h => h) (Or.inl ⟨by rfl, by intro w' h; go_simp⟩) hHeld ?_
        show wpAnyH _ _ _ _ _ _ _ (Act.put _ (some 25) _) _
        simp only [Act.put, List.setIfInBounds_toArray, List.set_cons_zero, List.set_cons_succ]
        refine wpAnyH_ready (rs := [14]) (by kernel_rfl) (by simp) ?_
        refine AllReadyH.cons rfl (fun K hK => ?_) AllReadyH.nil
        refine step_store1x rfl 27 (.tmp 25) (.tmp 23) rfl bm 0 (.slice Ab N cb) rfl rfl (TX4.out.there 0 1 (by simp)) (by kernel_rfl) rfl rfl ?_
        have hOs : OnlyS (fun i => i = bm) X4 (X4.setCell ⟨bm, 0, none⟩ (.slice Ab N cb)) := (OnlyS.refl (fun i => i = bm) X4).setCell (p := ⟨bm, 0, none⟩) (.inl rfl) _
        have GX5 : Hid (Own (X4.setCell ⟨bm, 0, none⟩ (.slice Ab N cb)) V.heap.size (.slice Ab N cb) ([] ++ p ++ q)) := Lib.hid (GX4.out.onlyS hOs (fun g9 h9 e => by have := (GX4.out.lt g9 h9).1; have := HBM.out; omega))
        have TX5 : Hid (Blk (X4.setCell ⟨bm, 0, none⟩ (.slice Ab N cb)) bm 48 [.slice Ab N cb, .slice AL nL cL, .int .i64 fu, .int .i64 st, .bool false]) := Lib.hid (TX4.out.set_ 0 (.slice Ab N cb))
        have FX5 : Hid (OnlyS (fun i => i = bm) V (X4.setCell ⟨bm, 0, none⟩ (.slice Ab N cb))) := Lib.hid ((OnlyS.of_below BX4.out).trans hOs)
        clear hOs GX4 TX4 PX4 QX4 BX4 CX4
        generalize X4.setCell ⟨bm, 0, none⟩ (.slice Ab N cb) = X5 at GX5 TX5 FX5 ⊢
        have CX5 : Hid (X5.cell? ⟨bm, 1, none⟩ = some (.slice AL nL cL)) := Lib.hid (TX5.out.cell 1)
        refine hK.out _ _ (CX5.out) (fun hHeld => ?_)
        clear hK K
        show wpAnyH _ _ _ _ _ _ _ (Act.put _ none _) _
        simp only [Act.put]
        refine wpAnyH_done (by kernel_rfl) ?_ _
        clear hHeld
        have c1 : X5.cell? ⟨bm, 1, none⟩ = some (.slice AL nL cL) := CX5.out
        have f1 := TX5.out.frozen 1
        go_wp2
        go_ret
        have hO9 : OnlyS (fun i => i = bm) X5 (X5.setCell ⟨bm, 1, none⟩ (.slice none 0 0)) := (OnlyS.refl (fun i => i = bm) X5).setCell (p := ⟨bm, 1, none⟩) (.inl rfl) _
        exact HFIN.out _ _ (FX5.out.trans hO9) (TX5.out.set_ 1 (.slice none 0 0)) (GX5.out.onlyS hO9 (fun g9 h9 e => by have := (GX5.out.lt g9 h9).1; have := HBM.out; omega))
      · refine step_val rfl (.slice AS nS cS) X0 (by have q9 := TX0.out.cell 0; go_simp) ?_
        refine hK.out _ _ (CX0.out) (fun hHeld => ?_)
        clear hK K
        show wpAnyH _ _ _ _ _ _ _ (Act.put _ (some 17) _) _
        simp only [Act.put, List.setIfInBounds_toArray, List.set_cons_zero, List.set_cons_succ]
        refine wpAnyH_ready (rs := [1]) (by kernel_rfl) (by simp) ?_
        refine AllReadyH.cons rfl (fun K hK => ?_) AllReadyH.nil
        refine step_lay rfl 27 0 #[] rfl #[] (by simp) (.slice (some ⟨X0.heap.size, 0, none⟩) 0 0) (X0.alloc (.cells #[] 5)) (lay0 X0) ?_
        have hB : Below X0.heap.size X0 (X0.alloc (.cells #[] 5)) := (Below.refl _ _).alloc (Nat.le_refl _) _
        have hL := (Own.lit0 X0).base (BX0.out.size)
        generalize X0.alloc (.cells #[] 5) = X2 at hB hL ⊢
        generalize X0.heap.size = gl at hL ⊢
        have CX2 : Hid (X2.cell? ⟨bm, 1, none⟩ = some (.slice AL nL cL)) := Lib.hid ((hB.cell (p := ⟨bm, 1, none⟩) (World.block_lt_of_cell? _ _ CX0.out)).trans CX0.out)
        have TX2 : Hid (Blk X2 bm 48 [.slice AS nS cS, .slice AL nL cL, .int .i64 fu, .int .i64 st, .bool false]) := Lib.hid (TX0.out.below hB TX0.out.lt)
        have PX2 : Hid (Src X2 AS cS p) := Lib.hid (PX0.out.below hB)
        have QX2 : Hid (Src X2 AL cL q) := Lib.hid (QX0.out.below hB)
        have BX2 : Hid (Below V.heap.size V X2) := Lib.hid (BX0.out.trans (hB.mono BX0.out.size))
        have GX2 : Hid (Own X2 V.heap.size (.slice (some ⟨gl, 0, none⟩) 0 0) []) := Lib.hid (hL)
        clear CX0 TX0 PX0 QX0 BX0 hB hL
        refine hK.out _ _ (CX2.out) (fun hHeld => ?_)
        clear hK K
        show wpAnyH _ _ _ _ _ _ _ (Act.put _ (some 13) _) _
        simp only [Act.put, List.setIfInBounds_toArray, List.set_cons_zero, List.set_cons_succ]
        refine wpAnyH_ready (rs := [6]) (by kernel_rfl) (by simp) ?_
        refine AllReadyH.cons rfl (fun K hK => ?_) AllReadyH.nil
        refine step_app rfl (.tmp 13) (.tmp 17) 27 27 rfl Try.underlying27 Try.underlying27 V.heap.size _ [] p rfl GX2.out AS nS cS rfl HNS.out PX2.out (by simp; have := HLE.out; omega) BX2.out.size ?_
        intro va X3 hOw hg hL2
        have hB : Below V.heap.size X2 X3 := (Below.refl _ _).grown hg BX2.out.size (fun q9 hq9 => (GX2.out.lt q9 hq9).1)
        have GX3 : Hid (Own X3 V.heap.size va ([] ++ p)) := Lib.hid hOw
        have hbm : bm < V.heap.size := HBM.out
        have TX3 := Lib.hid (TX2.out.grown hg (fun e => by have := (GX2.out.lt bm e.symm).1; omega))
        have PX3 : Hid (Src X3 AS cS p) := Lib.hid (PX2.out.onlyS ((OnlyS.refl (fun i => V.heap.size ≤ i) X2).grown hg (fun g9 h9 => .inl (GX2.out.lt g9 h9).1)) (fun a ha h9 => by have := HAS.out a ha; omega))
        have QX3 : Hid (Src X3 AL cL q) := Lib.hid (QX2.out.onlyS ((OnlyS.refl (fun i => V.heap.size ≤ i) X2).grown hg (fun g9 h9 => .inl (GX2.out.lt g9 h9).1)) (fun a ha h9 => by have := HAL.out a ha; omega))
        have BX3 : Hid (Below V.heap.size V X3) := Lib.hid (BX2.out.trans hB)
        have CX3 : Hid (X3.cell? ⟨bm, 1, none⟩ = some (.slice AL nL cL)) := Lib.hid (TX3.out.cell 1)
        obtain ⟨Aa, ca, hva, _⟩ := hOw.src
        rw [List.nil_append, ← HNS.out] at hva
        subst hva
        clear hB hOw hg hL2 hbm GX2 TX2 PX2 QX2 BX2 CX2
        refine hK.out _ _ (CX3.out) (fun hHeld => ?_)
        clear hK K
        show wpAnyH _ _ _ _ _ _ _ (Act.put _ (some 18) _) _
        simp only [Act.put, List.setIfInBounds_toArray, List.set_cons_zero, List.set_cons_succ]
        refine wpAnyH_ready (rs := [11]) (by kernel_rfl) (by simp) ?_
        refine AllReadyH.cons rfl (fun K hK => ?_) AllReadyH.nil
        refine step_app rfl (.tmp 18) (.tmp 22) 27 27 rfl Try.underlying27 Try.underlying27 V.heap.size _ ([] ++ p) q rfl GX3.out AL nL cL rfl HNL.out QX3.out (by simp; have := HLE.out; omega) BX3.out.size ?_
        intro va X4 hOw hg hL2
        have hB : Below V.heap.size X3 X4 := (Below.refl _ _).grown hg BX3.out.size (fun q9 hq9 => (GX3.out.lt q9 hq9).1)
        have GX4 : Hid (Own X4 V.heap.size va ([] ++ p ++ q)) := Lib.hid hOw
        have hbm : bm < V.heap.size := HBM.out
        have TX4 := Lib.hid (TX3.out.grown hg (fun e => by have := (GX3.out.lt bm e.symm).1; omega))
        have PX4 : Hid (Src X4 AS cS p) := Lib.hid (PX3.out.onlyS ((OnlyS.refl (fun i => V.heap.size ≤ i) X3).grown hg (fun g9 h9 => .inl (GX3.out.lt g9 h9).1)) (fun a ha h9 => by have := HAS.out a ha; omega))
        have QX4 : Hid (Src X4 AL cL q) := Lib.hid (QX3.out.onlyS ((OnlyS.refl (fun i => V.heap.size ≤ i) X3).grown hg (fun g9 h9 => .inl (GX3.out.lt g9 h9).1)) (fun a ha h9 => by have := HAL.out a ha; omega))
        have BX4 : Hid (Below V.heap.size V X4) := Lib.hid (BX3.out.trans hB)
        have CX4 : Hid (X4.cell? ⟨bm, 1, none⟩ = some (.slice AL nL cL)) := Lib.hid (TX4.out.cell 1)
        obtain ⟨Ab, cb, hvb, _⟩ := hOw.src
        rw [List.nil_append, HNN.out] at hvb
        subst hvb
        clear hB hOw hg hL2 hbm GX3 TX3 PX3 QX3 BX3 CX3
        refine hK.out _ _ (CX4.out) (fun hHeld => ?_)
        clear hK K
        show wpAnyH _ _ _ _ _ _ _ (Act.put _ (some 23) _) _
        simp only [Act.put, List.setIfInBounds_toArray, List.set_cons_zero, List.set_cons_succ]
        refine wpAnyH_take (i := 12) (v := .pointer (some ⟨bm, 0, none⟩)) rfl (by kernel_rfl) (by kernel_rfl) (by kernel_rfl) (fun _ _ _ h => h) (Or.inl ⟨by rfl, by intro w' h; go_simp⟩) hHeld ?_
        show wpAnyH _ _ _ _ _ _ _ (Act.put _ (some 24) _) _
        simp only [Act.put, List.setIfInBounds_toArray, List.set_cons_zero, List.set_cons_succ]
        refine wpAnyH_take (i := 13) (v := .pointer (some ⟨bm, 0, none⟩)) rfl (by kernel_rfl) (by kernel_rfl) (by kernel_rfl) (fun _ _ _ h => h) (Or.inl ⟨by rfl, by intro w' h; go_simp⟩) hHeld ?_
        show wpAnyH _ _ _ _ _ _ _ (Act.put _ (some 25) _) _
        simp only [Act.put, List.setIfInBounds_toArray, List.set_cons_zero, List.set_cons_succ]
        refine wpAnyH_ready (rs := [14]) (by kernel_rfl) (by simp) ?_
        refine AllReadyH.cons rfl (fun K hK => ?_) AllReadyH.nil
        refine step_store1x rfl 27 (.tmp 25) (.tmp 23) rfl bm 0 (.slice Ab N cb) rfl rfl (TX4.out.there 0 1 (by simp)) (by kernel_rfl) rfl rfl ?_
        have hOs : OnlyS (fun i => i = bm) X4 (X4.setCell ⟨bm, 0, none⟩ (.slice Ab N cb)) := (OnlyS.refl (fun i => i = bm) X4).setCell (p := ⟨bm, 0, none⟩) (.inl rfl) _
        have GX5 : Hid (Own (X4.setCell ⟨bm, 0, none⟩ (.slice Ab N cb)) V.heap.size (.slice Ab N cb) ([] ++ p ++ q)) := Lib.hid (GX4.out.onlyS hOs (fun g9 h9 e => by have := (GX4.out.lt g9 h9).1; have := HBM.out; omega))
        have TX5 : Hid (Blk (X4.setCell ⟨bm, 0, none⟩ (.slice Ab N cb)) bm 48 [.slice Ab N cb, .slice AL nL cL, .int .i64 fu, .int .i64 st, .bool false]) := Lib.hid (TX4.out.set_ 0 (.slice Ab N cb))
        have FX5 : Hid (OnlyS (fun i => i = bm) V (X4.setCell ⟨bm, 0, none⟩ (.slice Ab N cb))) := Lib.hid ((OnlyS.of_below BX4.out).trans hOs)
        clear hOs GX4 TX4 PX4 QX4 BX4 CX4
        generalize X4.setCell ⟨bm, 0, none⟩ (.slice Ab N cb) = X5 at GX5 TX5 FX5 ⊢
        have CX5 : Hid (X5.cell? ⟨bm, 1, none⟩ = some (.slice AL nL cL)) := Lib.hid (TX5.out.cell 1)
        refine hK.out _ _ (CX5.out) (fun hHeld => ?_)
        clear hK K
        show wpAnyH _ _ _ _ _ _ _ (Act.put _ none _) _
        simp only [Act.put]
        refine wpAnyH_done (by kernel_rfl) ?_ _
        clear hHeld
        have c1 : X5.cell? ⟨bm, 1, none⟩ = some (.slice AL nL cL) := CX5.out
        have f1 := TX5.out.frozen 1
        go_wp2
        go_ret
        have hO9 : OnlyS (fun i => i = bm) X5 (X5.setCell ⟨bm, 1, none⟩ (.slice none 0 0)) := (OnlyS.refl (fun i => i = bm) X5).setCell (p := ⟨bm, 1, none⟩) (.inl rfl) _
        exact HFIN.out _ _ (FX5.out.trans hO9) (TX5.out.set_ 1 (.slice none 0 0)) (GX5.out.onlyS hO9 (fun g9 h9 e => by have := (GX5.out.lt g9 h9).1; have := HBM.out; omega))

set_option maxRecDepth 100000 in
set_option maxHeartbeats 4000000 in
theorem rera_any (S : Nat → Prop) (bm : Nat) (s : SS) (w : World) (h : RefAt w S bm s) (hm : s.l.length ≤ 262144) (hf1 : -1 ≤ s.fu) (hf2 : s.fu ≤ 9223372036854775807) :
    Calls Try.prog 23 #[.pointer (some ⟨bm, 0, none⟩)] w (RPost S bm (stepE s 0) (eraS s) w) := by
  have H := Lib.hid h
  have hc4 : w.cell? ⟨bm, 4, none⟩ = some (.bool s.dn) := by obtain ⟨⟨vS, vL, hT, _⟩, _⟩ := h; exact hT.cell 4
  by_cases hd : s.dn = true
  · obtain ⟨e1, e2⟩ := down_is s 0 hd
    have HE : Hid (stepE s 0 = 5) := Lib.hid e2
    have HY : Hid (eraS s = s) := Lib.hid (by unfold eraS; rw [if_neg (by rw [e2]; decide), e1])
    rw [hd] at hc4
    clear h hd e1 e2
    go_enter Try.func23, Try.ntmps23
    go_wp2
    go_ret
    exact ⟨by rw [HE.out]; rfl, by rw [HY.out]; exact H.out, OnlyS.refl _ _⟩
  · have hd' : s.dn = false := by cases e : s.dn; rfl; exact absurd e hd
    have HK := Lib.hid (rstep_any S bm s w h hd' hf1 hf2)
    obtain ⟨e1, e2⟩ := tick_is s 0 hd' (by omega)
    have HE := Lib.hid e2
    have HY := Lib.hid (eraS_tick s hd' hm)
    rw [hd'] at hc4
    clear h hd hd' e1 e2 hm hf1 hf2
    by_cases hf : s.fu = 0
    · rw [hf] at HK
      have HF := Lib.hid hf
      clear hf
      go_enter Try.func23, Try.ntmps23
      go_wp2_with fail
      refine HK.out.mono ?_
      rintro e w1 ⟨rfl, hA, ho⟩
      have HA := Lib.hid hA
      have HO := Lib.hid ho
      clear hA ho HK
      go_wp2
      go_ret
      exact ⟨by rw [HE.out, HF.out]; rfl, by rw [HY.out, if_pos HF.out]; exact HA.out, HO.out⟩
    · have hfd : decide (s.fu = 0) = false := decide_eq_false hf
      rw [hfd] at HK
      have HF := Lib.hid hf
      clear hf hfd
      go_enter Try.func23, Try.ntmps23
      go_wp2_with fail
      refine HK.out.mono ?_
      rintro e V ⟨rfl, hA, ho⟩
      have HO := Lib.hid ho
      obtain ⟨⟨vS, vL, hT, _, _⟩, hoff⟩ := hA
      have hc0 : V.cell? ⟨bm, 0, none⟩ = some vS := hT.cell 0
      have hc1 : V.cell? ⟨bm, 1, none⟩ = some vL := hT.cell 1
      have f0 := hT.frozen 0
      have f1 := hT.frozen 1
      have HT := Lib.hid hT
      have HOF := Lib.hid hoff
      clear hT ho hoff HK
      go_wp2
      go_ret
      have hO9 : OnlyS (fun i => i = bm) V ((V.setCell ⟨bm, 0, none⟩ (.slice none 0 0)).setCell ⟨bm, 1, none⟩ (.slice none 0 0)) := ((OnlyS.refl (fun i => i = bm) V).setCell (p := ⟨bm, 0, none⟩) (.inl rfl) _).setCell (p := ⟨bm, 1, none⟩) (.inl rfl) _
      refine ⟨by rw [HE.out, if_neg HF.out]; rfl, ?_, HO.out.trans hO9⟩
      rw [HY.out, if_neg HF.out]
      have hb := (HT.out.set_ 0 (.slice none 0 0)).set_ 1 (.slice none 0 0)
      rw [show tick s = ⟨s.l, s.k, up s.st, burn s.fu, false⟩ by unfold tick; rw [if_neg HF.out]] at hb
      exact ⟨⟨.slice none 0 0, .slice none 0 0, hb, RdS.nil _ _, RdS.nil _ _⟩, HOF.out⟩

set_option maxRecDepth 100000 in
set_option maxHeartbeats 4000000 in
theorem rrea_any (S : Nat → Prop) (bm : Nat) (s : SS) (w : World) (h : RefAt w S bm s) (hm : s.l.length ≤ 262144) :
    Calls Try.prog 25 #[.pointer (some ⟨bm, 0, none⟩)] w fun e w' => ∃ A n c, e = .returned (.tuple #[.slice A n c, .int .i64 (chkE s.dn)]) ∧ n = (if s.dn = true then [] else s.l).length ∧ Src w' A c (if s.dn = true then [] else s.l) ∧ Below w.heap.size w w' := by
  have H := Lib.hid h
  have hc4 : w.cell? ⟨bm, 4, none⟩ = some (.bool s.dn) := by obtain ⟨⟨vS, vL, hT, _⟩, _⟩ := h; exact hT.cell 4
  by_cases hd : s.dn = true
  · rw [hd] at hc4 ⊢
    clear h hd
    go_enter Try.func25, Try.ntmps25
    go_wp2
    go_ret2
    exact ⟨none, 0, 0, rfl, rfl, ⟨fun _ => rfl, .inl rfl⟩, Below.refl _ _⟩
  · have hd' : s.dn = false := by cases e : s.dn; rfl; exact absurd e hd
    rw [hd'] at hc4 ⊢
    have HM := Lib.hid hm
    clear hd H hm
    obtain ⟨⟨vS, vL, hT, ⟨AS, cS, rfl, hP, hAS⟩, ⟨AL, cL, rfl, hQ, hAL⟩⟩, hoff⟩ := h
    rw [hd'] at hT
    obtain ⟨p, hp⟩ : ∃ p, s.l.take s.k = p := ⟨_, rfl⟩
    obtain ⟨q, hq⟩ : ∃ q, s.l.drop s.k = q := ⟨_, rfl⟩
    obtain ⟨nS, hnS⟩ : ∃ n, p.length = n := ⟨_, rfl⟩
    obtain ⟨nL, hnL⟩ : ∃ n, q.length = n := ⟨_, rfl⟩
    obtain ⟨N, hN⟩ : ∃ n, (p ++ q).length = n := ⟨_, rfl⟩
    have hpq : p ++ q = s.l := by rw [← hp, ← hq]; exact List.take_append_drop s.k s.l
    rw [if_neg (by decide), ← hpq]
    rw [hp] at hT hP
    rw [hq] at hT hQ
    rw [hnS, hnL] at hT
    obtain ⟨fu, hfu⟩ : ∃ x, s.fu = x := ⟨_, rfl⟩
    obtain ⟨st, hst⟩ : ∃ x, s.st = x := ⟨_, rfl⟩
    rw [hfu, hst] at hT
    have HTw := Lib.hid hT
    have HPw := Lib.hid hP
    have HQw := Lib.hid hQ
    have HBM := Lib.hid hT.lt
    have HAS : Hid (∀ a, AS = some a → a.block < w.heap.size) := Lib.hid (fun a ha => (hAS a ha).1)
    have HAL : Hid (∀ a, AL = some a → a.block < w.heap.size) := Lib.hid (fun a ha => (hAL a ha).1)
    have HNS : Hid (nS = p.length) := Lib.hid hnS.symm
    have HNL : Hid (nL = q.length) := Lib.hid hnL.symm
    have HNN := Lib.hid hN
    have HNN2 := Lib.hid hN.symm
    have HLE : Hid (p.length + q.length ≤ 262144) := Lib.hid (by rw [← List.length_append, hpq]; exact HM.out)
    have hBV : Below w.heap.size w w := Below.refl _ _
    clear hT hP hQ hAS hAL hoff hst hfu hp hq hnS hnL hN hpq HM hd'
    go_enter Try.func25, Try.ntmps25
    go_upto_region 3 with fail
    have TV := HTw
    have PV := HPw
    have QV := HQw
    have BV := Lib.hid hBV
    clear HTw HPw HQw hBV
    have hBz : Below w.heap.size w w.drew := below_drewN (Below.refl _ _) 1
    have TX0 : Hid (Blk w.drew bm 48 [.slice AS nS cS, .slice AL nL cL, .int .i64 fu, .int .i64 st, .bool false]) := Lib.hid (TV.out.below hBz TV.out.lt)
    have PX0 : Hid (Src w.drew AS cS p) := Lib.hid (PV.out.below hBz)
    have QX0 : Hid (Src w.drew AL cL q) := Lib.hid (QV.out.below hBz)
    have BX0 : Hid (Below w.heap.size w w.drew) := Lib.hid (BV.out.trans (hBz.mono BV.out.size))
    clear hBz
    refine wp_region_held_drew (S := fun w' => Blk w' bm 48 [.slice AS nS cS, .slice AL nL cL, .int .i64 fu, .int .i64 st, .bool false]) (by kernel_rfl) (TX0.out) (fun hHeld => ?_)
    generalize w.drew = X0 at hHeld TX0 PX0 QX0 BX0 ⊢
    refine wpAnyH_take (i := 1) (v := .pointer (some ⟨bm, 0, none⟩)) rfl (by kernel_rfl) (by kernel_rfl) (by kernel_rfl) (fun _ _ _ h => h) (Or.inl ⟨by rfl, fun w _ => by rfl⟩) hHeld ?_
    show wpAnyH _ _ _ _ _ _ _ (Act.put _ (some 9) _) _
    simp only [Act.put, List.setIfInBounds_toArray, List.set_cons_zero, List.set_cons_succ]
    refine wpAnyH_take (i := 2) (v := .pointer (some ⟨bm, 0, none⟩)) rfl (by kernel_rfl) (by kernel_rfl) (by kernel_rfl) (fun _ _ _ h => h) (Or.inl ⟨by rfl, by intro w' h; go_simp⟩) hHeld ?_
    show wpAnyH _ _ _ _ _ _ _ (Act.put _ (some 10) _) _
    simp only [Act.put, List.setIfInBounds_toArray, List.set_cons_zero, List.set_cons_succ]
    refine wpAnyH_take (i := 3) (v := .pointer (some ⟨bm, 0, none⟩)) rfl (by kernel_rfl) (by kernel_rfl) (by kernel_rfl) (fun _ _ _ h => h) (Or.inl ⟨by rfl, by intro w' h; go_simp⟩) hHeld ?_
    show wpAnyH _ _ _ _ _ _ _ (Act.put _ (some 11) _) _
    simp only [Act.put, List.setIfInBounds_toArray, List.set_cons_zero, List.set_cons_succ]
    refine wpAnyH_take (i := 4) (v := .slice AS nS cS) rfl (by kernel_rfl) (by kernel_rfl) (by kernel_rfl) (fun _ _ _ h => h) (Or.inl ⟨by rfl, by intro w' h; have q9 := Blk.cell h 0; go_simp⟩) hHeld ?_
    show wpAnyH _ _ _ _ _ _ _ (Act.put _ (some 12) _) _
    simp only [Act.put, List.setIfInBounds_toArray, List.set_cons_zero, List.set_cons_succ]
    refine wpAnyH_take (i := 6) (v := .pointer (some ⟨bm, 0, none⟩)) rfl (by kernel_rfl) (by kernel_rfl) (by kernel_rfl) (fun _ _ _ h => h) (Or.inl ⟨by rfl, fun w _ => by rfl⟩) hHeld ?_
    show wpAnyH _ _ _ _ _ _ _ (Act.put _ (some 14) _) _
    simp only [Act.put, List.setIfInBounds_toArray, List.set_cons_zero, List.set_cons_succ]
    refine wpAnyH_take (i := 7) (v := .pointer (some ⟨bm, 0, none⟩)) rfl (by kernel_rfl) (by kernel_rfl) (by kernel_rfl) (fun _ _ _ h => h) (Or.inl ⟨by rfl, by intro w' h; go_simp⟩) hHeld ?_
    show wpAnyH _ _ _ _ _ _ _ (Act.put _ (some 15) _) _
    simp only [Act.put, List.setIfInBounds_toArray, List.set_cons_zero, List.set_cons_succ]
    refine wpAnyH_take (i := 8) (v := .pointer (some ⟨bm, 1, none⟩)) rfl (by kernel_rfl) (by kernel_rfl) (by kernel_rfl) (fun _ _ _ h => h) (Or.inl ⟨by rfl, by intro w' h; go_simp⟩) hHeld ?_
    show wpAnyH _ _ _ _ _ _ _ (Act.put _ (some 16) _) _
    simp only [Act.put, List.setIfInBounds_toArray, List.set_cons_zero, List.set_cons_succ]
    refine wpAnyH_take (i := 9) (v := .slice AL nL cL) rfl (by kernel_rfl) (by kernel_rfl) (by kernel_rfl) (fun _ _ _ h => h) (Or.inl ⟨by rfl, by intro w' h; have q9 := Blk.cell h 1; go_simp⟩) hHeld ?_
    show wpAnyH _ _ _ _ _ _ _ (Act.put _ (some 17) _) _
    simp only [Act.put, List.setIfInBounds_toArray, List.set_cons_zero, List.set_cons_succ]
    refine wpAnyH_ready (rs := [0]) (by kernel_rfl) (by simp) ?_
    refine AllReadyH.cons rfl (fun K hK => ?_) AllReadyH.nil
    refine step_lay rfl 27 0 #[] rfl #[] (by simp) (.slice (some ⟨X0.heap.size, 0, none⟩) 0 0) (X0.alloc (.cells #[] 5)) (lay0 X0) ?_
    have hB : Below X0.heap.size X0 (X0.alloc (.cells #[] 5)) := (Below.refl _ _).alloc (Nat.le_refl _) _
    have hL := (Own.lit0 X0).base (BX0.out.size)
    generalize X0.alloc (.cells #[] 5) = X1 at hB hL ⊢
    generalize X0.heap.size = gl at hL ⊢
    have TX1 : Hid (Blk X1 bm 48 [.slice AS nS cS, .slice AL nL cL, .int .i64 fu, .int .i64 st, .bool false]) := Lib.hid (TX0.out.below hB TX0.out.lt)
    have PX1 : Hid (Src X1 AS cS p) := Lib.hid (PX0.out.below hB)
    have QX1 : Hid (Src X1 AL cL q) := Lib.hid (QX0.out.below hB)
    have BX1 : Hid (Below w.heap.size w X1) := Lib.hid (BX0.out.trans (hB.mono BX0.out.size))
    have GX1 : Hid (Own X1 w.heap.size (.slice (some ⟨gl, 0, none⟩) 0 0) []) := Lib.hid (hL)
    clear TX0 PX0 QX0 BX0 hB hL
    refine hK.out _ _ (TX1.out) (fun hHeld => ?_)
    clear hK K
    show wpAnyH _ _ _ _ _ _ _ (Act.put _ (some 8) _) _
    simp only [Act.put, List.setIfInBounds_toArray, List.set_cons_zero, List.set_cons_succ]
    refine wpAnyH_ready (rs := [5]) (by kernel_rfl) (by simp) ?_
    refine AllReadyH.cons rfl (fun K hK => ?_) AllReadyH.nil
    refine step_app rfl (.tmp 8) (.tmp 12) 27 27 rfl Try.underlying27 Try.underlying27 w.heap.size _ [] p rfl GX1.out AS nS cS rfl HNS.out PX1.out (by simp; have := HLE.out; omega) BX1.out.size ?_
    intro va X2 hOw hg hL2
    have hB : Below w.heap.size X1 X2 := (Below.refl _ _).grown hg BX1.out.size (fun q9 hq9 => (GX1.out.lt q9 hq9).1)
    have GX2 : Hid (Own X2 w.heap.size va ([] ++ p)) := Lib.hid hOw
    have hbm : bm < w.heap.size := HBM.out
    have TX2 := Lib.hid (TX1.out.grown hg (fun e => by have := (GX1.out.lt bm e.symm).1; omega))
    have PX2 : Hid (Src X2 AS cS p) := Lib.hid (PX1.out.onlyS ((OnlyS.refl (fun i => w.heap.size ≤ i) X1).grown hg (fun g9 h9 => .inl (GX1.out.lt g9 h9).1)) (fun a ha h9 => by have := HAS.out a ha; omega))
    have QX2 : Hid (Src X2 AL cL q) := Lib.hid (QX1.out.onlyS ((OnlyS.refl (fun i => w.heap.size ≤ i) X1).grown hg (fun g9 h9 => .inl (GX1.out.lt g9 h9).1)) (fun a ha h9 => by have := HAL.out a ha; omega))
    have BX2 : Hid (Below w.heap.size w X2) := Lib.hid (BX1.out.trans hB)
    obtain ⟨Aa, ca, hva, _⟩ := hOw.src
    rw [List.nil_append, ← HNS.out] at hva
    subst hva
    clear hB hOw hg hL2 hbm GX1 TX1 PX1 QX1 BX1
    refine hK.out _ _ (TX2.out) (fun hHeld => ?_)
    clear hK K
    show wpAnyH _ _ _ _ _ _ _ (Act.put _ (some 13) _) _
    simp only [Act.put, List.setIfInBounds_toArray, List.set_cons_zero, List.set_cons_succ]
    refine wpAnyH_ready (rs := [10]) (by kernel_rfl) (by simp) ?_
    refine AllReadyH.cons rfl (fun K hK => ?_) AllReadyH.nil
    refine step_app rfl (.tmp 13) (.tmp 17) 27 27 rfl Try.underlying27 Try.underlying27 w.heap.size _ ([] ++ p) q rfl GX2.out AL nL cL rfl HNL.out QX2.out (by simp; have := HLE.out; omega) BX2.out.size ?_
    intro va X3 hOw hg hL2
    have hB : Below w.heap.size X2 X3 := (Below.refl _ _).grown hg BX2.out.size (fun q9 hq9 => (GX2.out.lt q9 hq9).1)
    have GX3 : Hid (Own X3 w.heap.size va ([] ++ p ++ q)) := Lib.hid hOw
    have hbm : bm < w.heap.size := HBM.out
    have TX3 := Lib.hid (TX2.out.grown hg (fun e => by have := (GX2.out.lt bm e.symm).1; omega))
    have PX3 : Hid (Src X3 AS cS p) := Lib.hid (PX2.out.onlyS ((OnlyS.refl (fun i => w.heap.size ≤ i) X2).grown hg (fun g9 h9 => .inl (GX2.out.lt g9 h9).1)) (fun a ha h9 => by have := HAS.out a ha; omega))
    have QX3 : Hid (Src X3 AL cL q) := Lib.hid (QX2.out.onlyS ((OnlyS.refl (fun i => w.heap.size ≤ i) X2).grown hg (fun g9 h9 => .inl (GX2.out.lt g9 h9).1)) (fun a ha h9 => by have := HAL.out a ha; omega))
    have BX3 : Hid (Below w.heap.size w X3) := Lib.hid (BX2.out.trans hB)
    obtain ⟨Ab, cb, hvb, hSb⟩ := hOw.src
    rw [List.nil_append, HNN.out] at hvb
    have HSb := Lib.hid hSb
    subst hvb
    clear hB hOw hg hL2 hbm hSb GX2 TX2 PX2 QX2
    refine hK.out _ _ (TX3.out) (fun hHeld => ?_)
    clear hK K
    show wpAnyH _ _ _ _ _ _ _ (Act.put _ (some 18) _) _
    simp only [Act.put, List.setIfInBounds_toArray, List.set_cons_zero, List.set_cons_succ]
    refine wpAnyH_take (i := 11) (v := .slice Ab N cb) rfl (by kernel_rfl) (by kernel_rfl) (by kernel_rfl) (fun _ _ _ h => h) (Or.inl ⟨by rfl, fun w _ => by rfl⟩) hHeld ?_
    show wpAnyH _ _ _ _ _ _ _ (Act.put _ (some 2) _) _
    simp only [Act.put, List.setIfInBounds_toArray, List.set_cons_zero, List.set_cons_succ]
    refine wpAnyH_take (i := 12) (v := .int .i64 0) rfl (by kernel_rfl) (by kernel_rfl) (by kernel_rfl) (fun _ _ _ h => h) (Or.inl ⟨by rfl, fun w _ => by rfl⟩) hHeld ?_
    show wpAnyH _ _ _ _ _ _ _ (Act.put _ (some 3) _) _
    simp only [Act.put, List.setIfInBounds_toArray, List.set_cons_zero, List.set_cons_succ]
    refine wpAnyH_done (by kernel_rfl) ?_ _
    clear hHeld
    go_wp2
    go_ret2
    exact ⟨_, _, _, by rfl, HNN2.out, by rw [List.nil_append] at HSb; exact HSb.out, BX3.out⟩
end Go.Proofs.Ytjkpdfdcjhnjdaa
