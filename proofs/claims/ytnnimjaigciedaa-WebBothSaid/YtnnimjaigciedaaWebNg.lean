/-
  The document's Near (26).
-/
import Derived.Test.YtnnimjaigciedaaWebNf
namespace Go.Proofs.Ytnnimjaigciedaa
open Go.RowKit
set_option linter.unusedVariables false

theorem rnear_step {x y : Int} {sp : List (Int × Int)} {amt : Int} {S : List Stp} {i : Nat} {b f t c : Int} {A : Int} {e b9 r9 : Int} (h : rnear x y sp amt (S.drop i) b f = A) (hi : i < S.length) (hs : S.getD i stp00 = ⟨e, t, c, b9, r9⟩) :
    ((amt ≤ c ∧ 0 ≤ spd x y sp t ∧ (b < 0 ∨ spd x y sp t < f)) → rnear x y sp amt (S.drop (i + 1)) t (spd x y sp t) = A) ∧ (¬ (amt ≤ c ∧ 0 ≤ spd x y sp t ∧ (b < 0 ∨ spd x y sp t < f)) → rnear x y sp amt (S.drop (i + 1)) b f = A) := by
  have hd : S.drop i = ⟨e, t, c, b9, r9⟩ :: S.drop (i + 1) := by
    rw [List.drop_eq_getElem_cons hi]
    congr 1
    rw [List.getD_eq_getElem?_getD, List.getElem?_eq_getElem hi] at hs
    exact hs
  rw [hd] at h
  unfold rnear at h
  refine ⟨fun k => ?_, fun k => ?_⟩
  · rw [if_pos k] at h; exact h
  · rw [if_neg k] at h; exact h

set_option maxRecDepth 100000 in
set_option maxHeartbeats 8000000 in
theorem rnear_any (sa : Option Addr) (sl sc : Nat) (ea : Option Addr) (el ec : Nat) (sp : List (Int × Int)) (es : List Ed) (node amt x y : Int) (w : World) (hS : SpotRow w sa sp) (hsl : sp.length = sl) (hE : EdgeRow w ea es) (hel : es.length = el) (hel2 : el ≤ 90) (hsl2 : sl ≤ 1000) (hok : ∀ e ∈ es, EdOk e) :
    Calls Try.prog 26 #[.agg #[.slice sa sl sc, .slice ea el ec], .int .i64 node, .agg #[.int .i64 x, .int .i64 y], .int .u64 amt] w fun e w' => e = .returned (.int .i64 (nearA sl sp es node amt x y)) ∧ Below w.heap.size w w' := by
  have HSP := Lib.hid hS
  have HSL := Lib.hid hsl
  have HE := Lib.hid hE
  have HEL := Lib.hid hel
  obtain ⟨S, hSS⟩ : ∃ S, stepsL sl es node 0 = S := ⟨_, rfl⟩
  obtain ⟨n, hn⟩ : ∃ n, S.length = n := ⟨_, rfl⟩
  have HT : Hid (∀ s ∈ S, 0 ≤ s.t ∧ s.t < (sl : Int)) := Lib.hid (fun s hs => stepsL_t (by rw [hSS]; exact hs))
  have HA : Hid (rnear x y sp amt S (-1) 0 = nearA sl sp es node amt x y) := Lib.hid (by rw [← hSS]; exact rnear_is sl sp es node amt x y hok)
  have hnl : n ≤ el := by rw [← hn, ← hSS, ← hel]; exact stepsL_length
  have HSS := Lib.hid hSS
  have HNN := Lib.hid hn
  have hnI : (n : Int) ≤ 90 := by omega
  have HOP := Lib.hid (fun W (h : EdgeRow W ea es) => rsteps_any sa sl sc ea el ec es node W h hel hel2 hsl2 hok)
  have HB0 : Hid (Below w.heap.size w ((w.alloc (.cells #[.slice sa sl sc, .slice ea el ec] 25)).alloc (.cells #[.int .i64 x, .int .i64 y] 56))) := Lib.hid (((Below.refl _ _).alloc (Nat.le_refl _) _).alloc (by simp) _)
  have HP0 : Hid (Blk ((w.alloc (.cells #[.slice sa sl sc, .slice ea el ec] 25)).alloc (.cells #[.int .i64 x, .int .i64 y] 56)) w.heap.size 25 [.slice sa sl sc, .slice ea el ec]) := Lib.hid ((Blk.new w 25 [.slice sa sl sc, .slice ea el ec]).alloc _)
  have HQ0 : Hid (Blk ((w.alloc (.cells #[.slice sa sl sc, .slice ea el ec] 25)).alloc (.cells #[.int .i64 x, .int .i64 y] 56)) (w.heap.size + 1) 56 [.int .i64 x, .int .i64 y]) := Lib.hid (Blk.mk_ (cs := [.int .i64 x, .int .i64 y]) (by simp))
  clear hS hsl hE hel hSS hn hok
  go_enter Try.func26, Try.ntmps26
  have p0 : ((w.alloc (.cells #[.slice sa sl sc, .slice ea el ec] 25)).alloc (.cells #[.int .i64 x, .int .i64 y] 56)).cell? ⟨w.heap.size, 0, none⟩ = some (.slice sa sl sc) := HP0.out.cell 0
  have p1 : ((w.alloc (.cells #[.slice sa sl sc, .slice ea el ec] 25)).alloc (.cells #[.int .i64 x, .int .i64 y] 56)).cell? ⟨w.heap.size, 1, none⟩ = some (.slice ea el ec) := HP0.out.cell 1
  go_wp2_with fail
  clear p0 p1
  refine (HOP.out _ (HE.out.below HB0.out)).mono ?_
  rintro e V1 ⟨vL, rfl, hO, hB⟩
  rw [HSS.out, HNN.out] at hO
  obtain ⟨la, lc, hvl, _⟩ := StpRow.of_own (l := S) (by rw [HNN.out]; exact hO)
  rw [HNN.out] at hvl
  subst hvl
  have HP1 := Lib.hid (HP0.out.below hB HP0.out.lt)
  have HQ1 := Lib.hid (HQ0.out.below hB HQ0.out.lt)
  have HB1 := Lib.hid (HB0.out.trans (hB.mono HB0.out.size))
  have HL1 := Lib.hid (own_lower hO HB0.out.size)
  obtain ⟨gp, hgp⟩ : ∃ gp, w.heap.size = gp := ⟨_, rfl⟩
  have HW : Hid (w.heap.size = gp) := Lib.hid hgp
  rw [hgp] at HP1 HQ1 ⊢
  clear hO hB HP0 HQ0 HB0 hgp HOP
  go_wp2_with fail
  go_loopw [10, 11, 12, 13] (fun s10 s11 j _ wd => ∃ (i : Nat) (b f : Int), i ≤ n ∧ j = .int .i64 i ∧ s10 = .int .i64 b ∧ s11 = .int .i64 f ∧ Hid (rnear x y sp amt (S.drop i) b f = rnear x y sp amt S (-1) 0) ∧ Hid (Blk wd gp 25 [.slice sa sl sc, .slice ea el ec]) ∧ Hid (Blk wd (gp + 1) 56 [.int .i64 x, .int .i64 y]) ∧ Hid (wd.ownsRow w.heap.size 47 5 (.slice la n lc) n (sflat S)) ∧ Hid (Below w.heap.size w wd)) (fun _ _ j _ _ => n - (intOf j).toNat)
  case atStart => exact ⟨0, -1, 0, Nat.zero_le _, rfl, rfl, rfl, Lib.hid rfl, HP1, HQ1, HL1, HB1⟩
  case round =>
    clear HP1 HQ1 HL1 HB1
    obtain ⟨i, b, f, hi, rfl, rfl, rfl, HF, Pr, Qr, Lr, Br⟩ := hrel
    by_cases hlt : i < n
    · have hkI : (i : Int) < (n : Int) := by omega
      have hiS : i < S.length := by rw [HNN.out]; exact hlt
      obtain ⟨la9, lc9, h9, hL9, _⟩ := StpRow.of_own (l := S) (by rw [HNN.out]; exact Lr.out)
      injection h9 with h9 h10 h11
      subst h9
      clear h10 h11
      obtain ⟨bl, ol, rfl, hcl⟩ := hL9.at_ hiS
      have htr := HT.out _ (stp_mem S i hiS)
      obtain ⟨s0, hs0⟩ : ∃ s0, S.getD i stp00 = s0 := ⟨_, rfl⟩
      rw [hs0] at hcl htr
      obtain ⟨e9, t9, c9, b9, r9⟩ := s0
      simp only at htr
      obtain ⟨tn, htn⟩ : ∃ tn : Nat, t9 = tn := ⟨t9.toNat, by omega⟩
      subst htn
      have htl : tn < sl := by omega
      have htI : (tn : Int) < (sl : Int) := by omega
      obtain ⟨bs, os, hsa, hbs, hcs⟩ : ∃ b off, sa = some ⟨b, off, none⟩ ∧ b < w.heap.size ∧ w.cell? ⟨b, off + tn * 2, none⟩ = some (.int .i64 (spotOf sp (tn : Int)).1) ∧ w.cell? ⟨b, off + tn * 2 + 1, none⟩ = some (.int .i64 (spotOf sp (tn : Int)).2) := by
        rcases HSP.out with h | ⟨b, off, h1, h2, h3⟩
        · exfalso; have := HSL.out; rw [h] at this; simp at this; omega
        · exact ⟨b, off, h1, h2, h3 tn (by rw [HSL.out]; exact htl)⟩
      subst hsa
      have HSTEP0 := rnear_step HF.out hiS hs0
      obtain ⟨u, hu⟩ : ∃ u, (spotOf sp (tn : Int)).1 = u := ⟨_, rfl⟩
      obtain ⟨v, hv⟩ : ∃ v, (spotOf sp (tn : Int)).2 = v := ⟨_, rfl⟩
      rw [hu, hv] at hcs
      rw [show spd x y sp (tn : Int) = farP x y u v by unfold spd; rw [hu, hv]] at HSTEP0
      have HSTEP := Lib.hid HSTEP0
      have HS0 := Lib.hid hs0
      have Ur : Hid (wr.cell? ⟨bs, os + tn * 2, none⟩ = some (.int .i64 u)) := Lib.hid ((Br.out.cell (p := ⟨bs, os + tn * 2, none⟩) hbs).trans hcs.1)
      have Vr : Hid (wr.cell? ⟨bs, os + tn * 2 + 1, none⟩ = some (.int .i64 v)) := Lib.hid ((Br.out.cell (p := ⟨bs, os + tn * 2 + 1, none⟩) hbs).trans hcs.2)
      have Tr : Hid (wr.cell? ⟨bl, ol + i * 5 + 1, none⟩ = some (.int .i64 (tn : Int))) := Lib.hid (hcl.2 1 _ rfl)
      have Cr : Hid (wr.cell? ⟨gp, 0, none⟩ = some (.slice (some ⟨bs, os, none⟩) sl sc)) := Lib.hid (Pr.out.cell 0)
      clear hcl hs0 hL9 hcs hu hv htr HF HSTEP0
      go_upto_region 6 with fail
      have hBz : Below wr.heap.size wr wr.drew := below_drewN (Below.refl _ _) 1
      have QX0 : Hid (Blk wr.drew (gp + 1) 56 [.int .i64 x, .int .i64 y]) := Lib.hid (Qr.out.below hBz Qr.out.lt)
      have CX0 : Hid (wr.drew.cell? ⟨gp, 0, none⟩ = some (.slice (some ⟨bs, os, none⟩) sl sc)) := Lib.hid ((hBz.cell (p := ⟨gp, 0, none⟩) (World.block_lt_of_cell? _ _ Cr.out)).trans Cr.out)
      have TX0 : Hid (wr.drew.cell? ⟨bl, ol + i * 5 + 1, none⟩ = some (.int .i64 (tn : Int))) := Lib.hid ((hBz.cell (p := ⟨bl, ol + i * 5 + 1, none⟩) (World.block_lt_of_cell? _ _ Tr.out)).trans Tr.out)
      have UX0 : Hid (wr.drew.cell? ⟨bs, os + tn * 2, none⟩ = some (.int .i64 u)) := Lib.hid ((hBz.cell (p := ⟨bs, os + tn * 2, none⟩) (World.block_lt_of_cell? _ _ Ur.out)).trans Ur.out)
      have VX0 : Hid (wr.drew.cell? ⟨bs, os + tn * 2 + 1, none⟩ = some (.int .i64 v)) := Lib.hid ((hBz.cell (p := ⟨bs, os + tn * 2 + 1, none⟩) (World.block_lt_of_cell? _ _ Vr.out)).trans Vr.out)
      have PX0 : Hid (Blk wr.drew gp 25 [.slice (some ⟨bs, os, none⟩) sl sc, .slice ea el ec]) := Lib.hid (Pr.out.below hBz Pr.out.lt)
      have LX0 : Hid (wr.drew.ownsRow w.heap.size 47 5 (.slice (some ⟨bl, ol, none⟩) n lc) n (sflat S)) := Lib.hid (own_keepG Lr.out hBz)
      have BX0 : Hid (Below w.heap.size w wr.drew) := Lib.hid (Br.out.trans (hBz.mono Br.out.size))
      clear hBz
      refine wp_region_held_drew (S := fun w' => Blk w' (gp + 1) 56 [.int .i64 x, .int .i64 y] ∧ w'.cell? ⟨gp, 0, none⟩ = some (.slice (some ⟨bs, os, none⟩) sl sc) ∧ w'.cell? ⟨bl, ol + i * 5 + 1, none⟩ = some (.int .i64 (tn : Int)) ∧ w'.cell? ⟨bs, os + tn * 2, none⟩ = some (.int .i64 u) ∧ w'.cell? ⟨bs, os + tn * 2 + 1, none⟩ = some (.int .i64 v)) (by kernel_rfl) (⟨QX0.out, CX0.out, TX0.out, UX0.out, VX0.out⟩) (fun hHeld => ?_)
      generalize wr.drew = X0 at hHeld QX0 CX0 TX0 UX0 VX0 PX0 LX0 BX0 ⊢
      refine wpAnyH_take (i := 0) (v := .agg #[.int .i64 x, .int .i64 y]) rfl (by kernel_rfl) (by kernel_rfl) (by kernel_rfl) (fun _ _ _ h => h) (Or.inl ⟨by rfl, by intro w' h; have k0 := Blk.cell h.1 0; have k1 := Blk.cell h.1 1; simp only [List.getElem?_cons_zero, List.getElem?_cons_succ] at k0 k1; go_simp⟩) hHeld ?_
      show wpAnyH _ _ _ _ _ _ _ (Act.put _ (some 23) _) _
      simp only [Act.put, List.setIfInBounds_toArray, List.set_cons_zero, List.set_cons_succ]
      refine wpAnyH_take (i := 1) (v := .pointer (some ⟨gp, 0, none⟩)) rfl (by kernel_rfl) (by kernel_rfl) (by kernel_rfl) (fun _ _ _ h => h) (Or.inl ⟨by rfl, by intro w' h; go_simp⟩) hHeld ?_
      show wpAnyH _ _ _ _ _ _ _ (Act.put _ (some 24) _) _
      simp only [Act.put, List.setIfInBounds_toArray, List.set_cons_zero, List.set_cons_succ]
      refine wpAnyH_take (i := 2) (v := .slice (some ⟨bs, os, none⟩) sl sc) rfl (by kernel_rfl) (by kernel_rfl) (by kernel_rfl) (fun _ _ _ h => h) (Or.inl ⟨by rfl, by intro w' h; have q1 := h.2.1; have q2 := h.2.2.1; have q3 := h.2.2.2.1; have q4 := h.2.2.2.2; go_simp⟩) hHeld ?_
      show wpAnyH _ _ _ _ _ _ _ (Act.put _ (some 25) _) _
      simp only [Act.put, List.setIfInBounds_toArray, List.set_cons_zero, List.set_cons_succ]
      refine wpAnyH_take (i := 3) (v := .slice (some ⟨bl, ol, none⟩) n lc) rfl (by kernel_rfl) (by kernel_rfl) (by kernel_rfl) (fun _ _ _ h => h) (Or.inl ⟨by rfl, fun w _ => by rfl⟩) hHeld ?_
      show wpAnyH _ _ _ _ _ _ _ (Act.put _ (some 26) _) _
      simp only [Act.put, List.setIfInBounds_toArray, List.set_cons_zero, List.set_cons_succ]
      refine wpAnyH_take (i := 4) (v := .int .i64 (i : Int)) rfl (by kernel_rfl) (by kernel_rfl) (by kernel_rfl) (fun _ _ _ h => h) (Or.inl ⟨by rfl, fun w _ => by rfl⟩) hHeld ?_
      show wpAnyH _ _ _ _ _ _ _ (Act.put _ (some 27) _) _
      simp only [Act.put, List.setIfInBounds_toArray, List.set_cons_zero, List.set_cons_succ]
      refine wpAnyH_take (i := 5) (v := .pointer (some ⟨bl, ol + i * 5, none⟩)) rfl (by kernel_rfl) (by kernel_rfl) (by kernel_rfl) (fun _ _ _ h => h) (Or.inl ⟨by rfl, by intro w' h; go_simp⟩) hHeld ?_
      show wpAnyH _ _ _ _ _ _ _ (Act.put _ (some 28) _) _
      simp only [Act.put, List.setIfInBounds_toArray, List.set_cons_zero, List.set_cons_succ]
      refine wpAnyH_take (i := 6) (v := .pointer (some ⟨bl, ol + i * 5 + 1, none⟩)) rfl (by kernel_rfl) (by kernel_rfl) (by kernel_rfl) (fun _ _ _ h => h) (Or.inl ⟨by rfl, by intro w' h; go_simp⟩) hHeld ?_
      show wpAnyH _ _ _ _ _ _ _ (Act.put _ (some 29) _) _
      simp only [Act.put, List.setIfInBounds_toArray, List.set_cons_zero, List.set_cons_succ]
      refine wpAnyH_take (i := 7) (v := .int .i64 (tn : Int)) rfl (by kernel_rfl) (by kernel_rfl) (by kernel_rfl) (fun _ _ _ h => h) (Or.inl ⟨by rfl, by intro w' h; have q1 := h.2.1; have q2 := h.2.2.1; have q3 := h.2.2.2.1; have q4 := h.2.2.2.2; go_simp⟩) hHeld ?_
      show wpAnyH _ _ _ _ _ _ _ (Act.put _ (some 30) _) _
      simp only [Act.put, List.setIfInBounds_toArray, List.set_cons_zero, List.set_cons_succ]
      refine wpAnyH_take (i := 8) (v := .pointer (some ⟨bs, os + tn * 2, none⟩)) rfl (by kernel_rfl) (by kernel_rfl) (by kernel_rfl) (fun _ _ _ h => h) (Or.inl ⟨by rfl, by intro w' h; go_simp⟩) hHeld ?_
      show wpAnyH _ _ _ _ _ _ _ (Act.put _ (some 31) _) _
      simp only [Act.put, List.setIfInBounds_toArray, List.set_cons_zero, List.set_cons_succ]
      refine wpAnyH_take (i := 9) (v := .agg #[.int .i64 u, .int .i64 v]) rfl (by kernel_rfl) (by kernel_rfl) (by kernel_rfl) (fun _ _ _ h => h) (Or.inl ⟨by rfl, by intro w' h; have q1 := h.2.1; have q2 := h.2.2.1; have q3 := h.2.2.2.1; have q4 := h.2.2.2.2; go_simp⟩) hHeld ?_
      show wpAnyH _ _ _ _ _ _ _ (Act.put _ (some 32) _) _
      simp only [Act.put, List.setIfInBounds_toArray, List.set_cons_zero, List.set_cons_succ]
      refine wpAnyH_ready (rs := [10]) (by kernel_rfl) (by simp) ?_
      refine AllReadyH.cons rfl (fun K hK => ?_) AllReadyH.nil
      refine step_call rfl 51 #[.tmp 23, .tmp 32] #[56, 56] rfl #[.agg #[.int .i64 x, .int .i64 y], .agg #[.int .i64 u, .int .i64 v]] (by simp [Act.eval]) (by go_simp) (rfar_any x y u v X0) ?_
      rintro e X1 ⟨rfl, hB⟩
      have QX1 : Hid (Blk X1 (gp + 1) 56 [.int .i64 x, .int .i64 y]) := Lib.hid (QX0.out.below hB QX0.out.lt)
      have CX1 : Hid (X1.cell? ⟨gp, 0, none⟩ = some (.slice (some ⟨bs, os, none⟩) sl sc)) := Lib.hid ((hB.cell (p := ⟨gp, 0, none⟩) (World.block_lt_of_cell? _ _ CX0.out)).trans CX0.out)
      have TX1 : Hid (X1.cell? ⟨bl, ol + i * 5 + 1, none⟩ = some (.int .i64 (tn : Int))) := Lib.hid ((hB.cell (p := ⟨bl, ol + i * 5 + 1, none⟩) (World.block_lt_of_cell? _ _ TX0.out)).trans TX0.out)
      have UX1 : Hid (X1.cell? ⟨bs, os + tn * 2, none⟩ = some (.int .i64 u)) := Lib.hid ((hB.cell (p := ⟨bs, os + tn * 2, none⟩) (World.block_lt_of_cell? _ _ UX0.out)).trans UX0.out)
      have VX1 : Hid (X1.cell? ⟨bs, os + tn * 2 + 1, none⟩ = some (.int .i64 v)) := Lib.hid ((hB.cell (p := ⟨bs, os + tn * 2 + 1, none⟩) (World.block_lt_of_cell? _ _ VX0.out)).trans VX0.out)
      have PX1 : Hid (Blk X1 gp 25 [.slice (some ⟨bs, os, none⟩) sl sc, .slice ea el ec]) := Lib.hid (PX0.out.below hB PX0.out.lt)
      have LX1 : Hid (X1.ownsRow w.heap.size 47 5 (.slice (some ⟨bl, ol, none⟩) n lc) n (sflat S)) := Lib.hid (own_keepG LX0.out hB)
      have BX1 : Hid (Below w.heap.size w X1) := Lib.hid (BX0.out.trans (hB.mono BX0.out.size))
      clear QX0 CX0 TX0 UX0 VX0 PX0 LX0 BX0 hB
      refine ⟨_, rfl, hK.out _ _ (⟨QX1.out, CX1.out, TX1.out, UX1.out, VX1.out⟩) (fun hHeld => ?_)⟩
      clear hK K
      show wpAnyH _ _ _ _ _ _ _ (Act.put _ (some 33) _) _
      simp only [Act.put, List.setIfInBounds_toArray, List.set_cons_zero, List.set_cons_succ]
      refine wpAnyH_take (i := 11) (v := .int .i64 (farP x y u v)) rfl (by kernel_rfl) (by kernel_rfl) (by kernel_rfl) (fun _ _ _ h => h) (Or.inl ⟨by rfl, fun w _ => by rfl⟩) hHeld ?_
      show wpAnyH _ _ _ _ _ _ _ (Act.put _ (some 13) _) _
      simp only [Act.put, List.setIfInBounds_toArray, List.set_cons_zero, List.set_cons_succ]
      refine wpAnyH_done (by kernel_rfl) ?_ _
      clear hHeld
      have PX := PX1
      have QX := QX1
      have LX := LX1
      have BX := BX1
      clear PX1 QX1 LX1 BX1 CX1 TX1 UX1 VX1
      obtain ⟨d, hd⟩ : ∃ d, farP x y u v = d := ⟨_, rfl⟩
      rw [hd] at HSTEP ⊢
      clear hd
      obtain ⟨la9, lc9, h9, hL9, _⟩ := StpRow.of_own (l := S) (by rw [HNN.out]; exact LX.out)
      injection h9 with h9 h10 h11
      subst h9
      clear h10 h11
      obtain ⟨bl2, ol2, hbl2, hcl⟩ := hL9.at_ hiS
      injection hbl2 with hbl2
      injection hbl2 with hb1 hb2
      subst hb1 hb2
      rw [HS0.out] at hcl
      have e1 : X1.cell? ⟨bl, ol + i * 5 + 1, none⟩ = some (.int .i64 (tn : Int)) := hcl.2 1 _ rfl
      have e2 : X1.cell? ⟨bl, ol + i * 5 + 2, none⟩ = some (.int .u64 c9) := hcl.2 2 _ rfl
      clear hcl hL9 hiS
      by_cases h1 : amt ≤ c9
      · by_cases h2 : 0 ≤ d
        · by_cases h3 : b < 0
          · skip
            have HST : Hid (rnear x y sp amt (S.drop (i + 1)) (tn : Int) d = rnear x y sp amt S (-1) 0) := Lib.hid (HSTEP.out.1 ⟨h1, h2, .inl h3⟩)
            clear HSTEP
            go_wp2
            go_roundw
            case rel => exact ⟨i + 1, (tn : Int), d, by omega, by go_num, rfl, rfl, HST, PX, QX, LX, BX⟩
            case measure => simp [intOf]; omega
          · by_cases h4 : d < f
            · skip
              have HST : Hid (rnear x y sp amt (S.drop (i + 1)) (tn : Int) d = rnear x y sp amt S (-1) 0) := Lib.hid (HSTEP.out.1 ⟨h1, h2, .inr h4⟩)
              clear HSTEP
              go_wp2
              go_roundw
              case rel => exact ⟨i + 1, (tn : Int), d, by omega, by go_num, rfl, rfl, HST, PX, QX, LX, BX⟩
              case measure => simp [intOf]; omega
            · skip
              have HST : Hid (rnear x y sp amt (S.drop (i + 1)) b f = rnear x y sp amt S (-1) 0) := Lib.hid (HSTEP.out.2 (fun k => k.2.2.elim h3 h4))
              clear HSTEP
              go_wp2
              go_roundw
              case rel => exact ⟨i + 1, b, f, by omega, by go_num, rfl, rfl, HST, PX, QX, LX, BX⟩
              case measure => simp [intOf]; omega
        · skip
          have HST : Hid (rnear x y sp amt (S.drop (i + 1)) b f = rnear x y sp amt S (-1) 0) := Lib.hid (HSTEP.out.2 (fun k => h2 k.2.1))
          clear HSTEP
          go_wp2
          go_roundw
          case rel => exact ⟨i + 1, b, f, by omega, by go_num, rfl, rfl, HST, PX, QX, LX, BX⟩
          case measure => simp [intOf]; omega
      · skip
        have HST : Hid (rnear x y sp amt (S.drop (i + 1)) b f = rnear x y sp amt S (-1) 0) := Lib.hid (HSTEP.out.2 (fun k => h1 k.1))
        clear HSTEP
        go_wp2
        go_roundw
        case rel => exact ⟨i + 1, b, f, by omega, by go_num, rfl, rfl, HST, PX, QX, LX, BX⟩
        case measure => simp [intOf]; omega
    · obtain rfl : i = n := by omega
      have HB9 : Hid (b = nearA sl sp es node amt x y) := Lib.hid (by
        have h := HF.out
        rw [HA.out, List.drop_eq_nil_of_le (by rw [HNN.out]; exact Nat.le_refl _)] at h
        exact h)
      clear HF
      go_wp2
      go_ret
      exact ⟨by rw [← HB9.out]; rfl, Br.out⟩
end Go.Proofs.Ytnnimjaigciedaa
