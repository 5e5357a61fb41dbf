/-
  web's Sent, where it goes.
-/
import Derived.Test.YtnnimjaigciedaaWebSc
namespace Go.Proofs.Ytnnimjaigciedaa
open Go.RowKit
set_option linter.unusedVariables false

set_option maxRecDepth 100000 in
set_option maxHeartbeats 4000000 in
theorem sent_good0 (sa : Option Addr) (sl sc : Nat) (ea : Option Addr) (el ec : Nat) (sp : List (Int × Int)) (es : List Ed) (k : Nat) (node amt : Int) (w : World) (HS : Hid (SpotRow w sa sp)) (HE : Hid (EdgeRow w ea es)) (HSL : Hid (sp.length = sl)) (HEL : Hid (es.length = el)) (hel2 : el ≤ 1000) (hsl2 : sl ≤ 1000) (HSN : Hid (sa = none → sp = [] ∧ sc = 0)) (HEN : Hid (ea = none → es = [] ∧ ec = 0)) (pe qe ce de fe ge he ie : Int) (hc : checkE sl es = 0) (hk : k < el) (hz : es.getD k ed0 = ⟨pe, qe, ce, de, fe, ge, he, ie⟩) (hsd : sideE ⟨pe, qe, ce, de, fe, ge, he, ie⟩ node = 0) (hwce : Word ce) (hwde : Word de) (hamt : Word amt) (hf : ¬ ce < amt) (hm : de + amt < 18446744073709551616) :
    Calls Try.prog 27 #[.agg #[.slice sa sl sc, .slice ea el ec], .int .i64 (k : Int), .int .i64 node, .int .u64 amt] w (SentPost w sp es (k : Int) node amt) := by
  have HX : Hid (sentErr sp.length es (k : Int) node amt = 0) := Lib.hid (by unfold sentErr; rw [HSL.out, if_neg (by rw [hc]; simp), if_neg (by rw [HEL.out]; omega), Int.toNat_natCast, hz, hsd]; rw [if_neg (by omega), if_neg (by simp [canE, subE]; omega)]; simp [canE, addE]; omega)
  have HSL2 : Hid (sentL es (k : Int) node amt = es.set k ⟨pe, qe, ce - amt, de + amt, fe, ge, he, ie⟩) := Lib.hid (by unfold sentL; rw [Int.toNat_natCast, hz, hsd]; rfl)
  have HCS2 : Hid (∀ cur : List Value, cur.take (el * 8) = eflat es → ∀ x y : Int, ((cur.set (k * 8 + 2) (.int .u64 x)).set (k * 8 + 3) (.int .u64 y)).take (el * 8) = eflat (es.set k ⟨pe, qe, x, y, fe, ge, he, ie⟩)) := Lib.hid fun cur hT x y => cur_set (e := ⟨pe, qe, ce, de, fe, ge, he, ie⟩) x y hT HEL.out hk hz
  have HZE := Lib.hid hz
  have HC39 : Hid (∀ X, Below w.heap.size w X → Calls Try.prog 54 #[.slice sa sl sc] X (Clone39 X sp sl)) := Lib.hid fun X hX => by
    have h := clone39_any sa sc sp X (HS.out.below hX) HSN.out (by rw [HSL.out]; omega)
    rw [HSL.out] at h
    exact h
  have HC56a : Hid (∀ X, Below w.heap.size w X → Calls Try.prog 55 #[.slice ea el ec] X (Clone56 X es el)) := Lib.hid fun X hX => by
    have h := clone56_any ea ec es X (HE.out.below hX) HEN.out (by rw [HEL.out]; omega)
    rw [HEL.out] at h
    exact h
  have s1 : subE ce amt = 0 := by unfold subE; rw [if_neg hf]
  have s2 : subV ce amt = ce - amt := by unfold subV; rw [if_neg hf]
  have s3 : addE de amt = 0 := by unfold addE; rw [if_pos hm]
  have s4 : addV de amt = de + amt := by unfold addV; rw [if_pos hm]
  have HC0 := Lib.hid hc
  have HCK : Hid (∀ W, Below w.heap.size w W → Calls Try.prog 18 #[.agg #[.slice sa sl sc, .slice ea el ec]] W fun r w' => r = .returned (.int .i64 0) ∧ Below W.heap.size W w') := Lib.hid fun W hW => by
    have h := check_any sa sl sc ea el ec es W (HE.out.below hW) HEL.out (by omega) (by omega)
    rw [HC0.out] at h
    exact h
  rcases HE.out with h0 | ⟨b0, off, hea, hb, hcx⟩
  · exfalso; have h := HEL.out; rw [h0] at h; simp at h; omega
  have HEA := Lib.hid hea
  clear hea
  have hcs := hcx k (by rw [HEL.out]; exact hk)
  rw [hz] at hcs
  have HCS := Lib.hid hcs
  clear hcs
  have HSD : Hid (∀ w, Calls Try.prog 20 #[.agg #[.int .i64 pe, .int .i64 qe, .int .u64 ce, .int .u64 de, .int .u64 fe, .int .u64 ge, .int .u64 he, .int .u64 ie], .int .i64 node] w fun r w' => r = .returned (.int .i64 0) ∧ Below w.heap.size w w') := Lib.hid fun w => by
    have h := eside_any ⟨pe, qe, ce, de, fe, ge, he, ie⟩ node w
    rw [hsd] at h
    exact h
  have hk1 : (0 : Int) ≤ (k : Int) := by omega
  have hk2 : (k : Int) < (el : Int) := by omega
  have hk3 : ¬ ((k : Int) < 0) := by omega
  have hk4 : ¬ ((el : Int) ≤ (k : Int)) := by omega
  clear hcx hz hsd hc
  go_enter Try.func27, Try.ntmps27
  go_wp2_with fail
  have B0 : Hid (Blk ((w.alloc (.cells #[.slice sa sl sc, .slice ea el ec] 31)).alloc (.cells #[.slice none 0 0, .slice none 0 0] 31)) w.heap.size 31 [.slice sa sl sc, .slice ea el ec]) := Lib.hid ((Blk.mk_ rfl).alloc _)
  have R0 : Hid (Blk ((w.alloc (.cells #[.slice sa sl sc, .slice ea el ec] 31)).alloc (.cells #[.slice none 0 0, .slice none 0 0] 31)) (w.heap.size + 1) 31 [.slice none 0 0, .slice none 0 0]) := Lib.hid (Blk.mk_ (by simp))
  have HB : Hid (Below w.heap.size w ((w.alloc (.cells #[.slice sa sl sc, .slice ea el ec] 31)).alloc (.cells #[.slice none 0 0, .slice none 0 0] 31))) := Lib.hid (((Below.refl _ _).alloc (Nat.le_refl _) _).alloc (by simp) _)
  generalize ((w.alloc (.cells #[.slice sa sl sc, .slice ea el ec] 31)).alloc (.cells #[.slice none 0 0, .slice none 0 0] 31)) = W at B0 R0 HB ⊢
  refine (HCK.out W HB.out).mono ?_
  rintro e Y ⟨rfl, hB⟩
  replace B0 := Lib.hid (B0.out.keep hB)
  replace R0 := Lib.hid (R0.out.keep hB)
  replace HB := Lib.hid (HB.out.trans (hB.mono HB.out.size))
  clear hB
  have hea := HEA.out
  subst hea
  have k1 := B0.out.cell 0
  have k2 := B0.out.cell 1
  simp only [List.getElem?_cons_zero, List.getElem?_cons_succ] at k1 k2
  have hb3 : b0 < Y.heap.size := Nat.lt_of_lt_of_le hb HB.out.size
  have hcs := HCS.out
  have e0 : Y.cell? ⟨b0, off + k * 8, none⟩ = some (.int .i64 pe) := (HB.out.cell (p := ⟨b0, off + k * 8, none⟩) hb).trans (hcs 0 _ rfl)
  have e1 : Y.cell? ⟨b0, off + k * 8 + 1, none⟩ = some (.int .i64 qe) := (HB.out.cell (p := ⟨b0, off + k * 8 + 1, none⟩) hb).trans (hcs 1 _ rfl)
  have e2 : Y.cell? ⟨b0, off + k * 8 + 2, none⟩ = some (.int .u64 ce) := (HB.out.cell (p := ⟨b0, off + k * 8 + 2, none⟩) hb).trans (hcs 2 _ rfl)
  have e3 : Y.cell? ⟨b0, off + k * 8 + 3, none⟩ = some (.int .u64 de) := (HB.out.cell (p := ⟨b0, off + k * 8 + 3, none⟩) hb).trans (hcs 3 _ rfl)
  have e4 : Y.cell? ⟨b0, off + k * 8 + 4, none⟩ = some (.int .u64 fe) := (HB.out.cell (p := ⟨b0, off + k * 8 + 4, none⟩) hb).trans (hcs 4 _ rfl)
  have e5 : Y.cell? ⟨b0, off + k * 8 + 5, none⟩ = some (.int .u64 ge) := (HB.out.cell (p := ⟨b0, off + k * 8 + 5, none⟩) hb).trans (hcs 5 _ rfl)
  have e6 : Y.cell? ⟨b0, off + k * 8 + 6, none⟩ = some (.int .u64 he) := (HB.out.cell (p := ⟨b0, off + k * 8 + 6, none⟩) hb).trans (hcs 6 _ rfl)
  have e7 : Y.cell? ⟨b0, off + k * 8 + 7, none⟩ = some (.int .u64 ie) := (HB.out.cell (p := ⟨b0, off + k * 8 + 7, none⟩) hb).trans (hcs 7 _ rfl)
  clear hcs
  go_wp2_with fail
  refine (HSD.out _).mono ?_
  rintro e Y1 ⟨rfl, hB⟩
  clear e0 e1 e2 e3 e4 e5 e6 e7 k1 k2 hb3
  replace B0 := Lib.hid (B0.out.keep hB)
  replace R0 := Lib.hid (R0.out.keep hB)
  replace HB := Lib.hid (HB.out.trans (hB.mono HB.out.size))
  clear hB
  have HC56 := HC56a
  clear HC56a
  have k1 := B0.out.cell 0
  have k2 := B0.out.cell 1
  simp only [List.getElem?_cons_zero, List.getElem?_cons_succ] at k1 k2
  have hb3 : b0 < Y1.heap.size := Nat.lt_of_lt_of_le hb HB.out.size
  have hcs := HCS.out
  have e2 : Y1.cell? ⟨b0, off + k * 8 + 2, none⟩ = some (.int .u64 ce) := (HB.out.cell (p := ⟨b0, off + k * 8 + 2, none⟩) hb).trans (hcs 2 _ rfl)
  have e3 : Y1.cell? ⟨b0, off + k * 8 + 3, none⟩ = some (.int .u64 de) := (HB.out.cell (p := ⟨b0, off + k * 8 + 3, none⟩) hb).trans (hcs 3 _ rfl)
  clear hcs
  go_wp2_with fail
  have D0 : Hid (Blk (Y1.alloc (.cells #[.int .u64 ce, .int .u64 de] 49)) Y1.heap.size 49 [.int .u64 ce, .int .u64 de]) := Lib.hid (Blk.mk_ rfl)
  replace B0 := Lib.hid (B0.out.alloc (.cells #[.int .u64 ce, .int .u64 de] 49))
  replace R0 := Lib.hid (R0.out.alloc (.cells #[.int .u64 ce, .int .u64 de] 49))
  replace HB := Lib.hid (HB.out.alloc HB.out.size (.cells #[.int .u64 ce, .int .u64 de] 49))
  generalize Y1.alloc (.cells #[.int .u64 ce, .int .u64 de] 49) = Y2 at D0 B0 R0 HB ⊢
  generalize Y1.heap.size = gD at D0 ⊢
  clear e2 e3 k1 k2 hb3
  refine (sub_any ce amt _ hwce hamt).mono ?_
  rintro e Y3 ⟨rfl, rfl⟩
  rw [s1, s2]
  clear s1 s2
  have d1 := D0.out.cell 0
  have d2 := D0.out.cell 1
  simp only [List.getElem?_cons_zero, List.getElem?_cons_succ] at d1 d2
  go_wp2_with fail
  refine (add_any de amt _ hwde hamt).mono ?_
  rintro e Y4 ⟨rfl, rfl⟩
  rw [s3, s4]
  clear d1 d2 s3 s4 D0
  go_upto_region 16 with fail
  go_cut [16] (fun p wc => ∃ gN g a1 c1 cap cur, p = .pointer (some ⟨gN, 0, none⟩) ∧ Hid (SentCut w wc sl el sp es gN g a1 c1 cap cur))
  case first =>
    replace B0 := Lib.hid (Blk.drewN B0.out 1)
    replace R0 := Lib.hid (Blk.drewN R0.out 1)
    replace HB := Lib.hid (below_drewN HB.out 1)
    refine wp_region_held_drew (S := fun w' => Blk w' w.heap.size 31 [.slice sa sl sc, .slice (some ⟨b0, off, none⟩) el ec]) (by kernel_rfl) B0.out (fun hHeld => ?_)
    generalize hY : Y2.drew = X at hHeld ⊢
    rw [show Y2.drewN 1 = X from hY] at B0 R0 HB
    clear hY
    refine wpAnyH_take (i := 0) (v := .pointer (some ⟨w.heap.size, 0, none⟩)) rfl (by kernel_rfl) (by kernel_rfl) (by kernel_rfl) (fun _ _ _ h => h) (Or.inl ⟨by rfl, by intro w' _; go_simp⟩) hHeld ?_
    show wpAnyH _ _ _ _ _ _ _ (Act.put _ (some 73) _) _
    simp only [Act.put, List.setIfInBounds_toArray, List.set_cons_zero, List.set_cons_succ]
    refine wpAnyH_take (i := 1) (v := .slice sa sl sc) rfl (by kernel_rfl) (by kernel_rfl) (by kernel_rfl) (fun _ _ _ h => h) (Or.inl ⟨by rfl, by intro w' h; have k1 := h.cell 0; have k2 := h.cell 1; simp only [List.getElem?_cons_zero, List.getElem?_cons_succ] at k1 k2; go_simp⟩) hHeld ?_
    show wpAnyH _ _ _ _ _ _ _ (Act.put _ (some 74) _) _
    simp only [Act.put, List.setIfInBounds_toArray, List.set_cons_zero, List.set_cons_succ]
    refine wpAnyH_take (i := 3) (v := .pointer (some ⟨w.heap.size, 1, none⟩)) rfl (by kernel_rfl) (by kernel_rfl) (by kernel_rfl) (fun _ _ _ h => h) (Or.inl ⟨by rfl, by intro w' _; go_simp⟩) hHeld ?_
    show wpAnyH _ _ _ _ _ _ _ (Act.put _ (some 76) _) _
    simp only [Act.put, List.setIfInBounds_toArray, List.set_cons_zero, List.set_cons_succ]
    refine wpAnyH_take (i := 4) (v := .slice (some ⟨b0, off, none⟩) el ec) rfl (by kernel_rfl) (by kernel_rfl) (by kernel_rfl) (fun _ _ _ h => h) (Or.inl ⟨by rfl, by intro w' h; have k1 := h.cell 0; have k2 := h.cell 1; simp only [List.getElem?_cons_zero, List.getElem?_cons_succ] at k1 k2; go_simp⟩) hHeld ?_
    show wpAnyH _ _ _ _ _ _ _ (Act.put _ (some 77) _) _
    simp only [Act.put, List.setIfInBounds_toArray, List.set_cons_zero, List.set_cons_succ]
    refine wpAnyH_ready (rs := [2, 7]) (by kernel_rfl) (by simp) ?_
    refine AllReadyH.cons rfl (fun K hK => ?_) (AllReadyH.cons rfl (fun K hK => ?_) AllReadyH.nil)
    · refine step_call rfl 54 #[.tmp 74] #[28] rfl #[.slice sa sl sc] (by simp [Act.eval]) (by go_simp) (HC39.out _ HB.out) ?_
      rintro e X ⟨a1, c1, rfl, h1, hB, h2, h3⟩
      have P1 := Lib.hid h1
      have Z1 := Lib.hid h2
      have PR : Hid (sp = [] ∨ ∃ b off, a1 = some ⟨b, off, none⟩ ∧ b ≠ w.heap.size + 1) := Lib.hid (by
        rcases h1 with h | ⟨b, o, e, hb, _⟩
        · exact .inl h
        · exact .inr ⟨b, o, e, by have h4 := h3 b o none e; have h5 := R0.out.lt; omega⟩)
      replace B0 := Lib.hid (B0.out.keep hB)
      replace R0 := Lib.hid (R0.out.keep hB)
      replace HB := Lib.hid (HB.out.trans (hB.mono HB.out.size))
      clear hB h1 h2 h3
      refine ⟨_, rfl, hK.out _ _ B0.out (fun hHeld => ?_)⟩
      clear hK K
      show wpAnyH _ _ _ _ _ _ _ (Act.put _ (some 75) _) _
      simp only [Act.put, List.setIfInBounds_toArray, List.set_cons_zero, List.set_cons_succ]
      refine wpAnyH_ready (rs := [5, 7]) (by kernel_rfl) (by simp) ?_
      refine AllReadyH.cons rfl (fun K hK => ?_) (AllReadyH.cons rfl (fun K hK => ?_) AllReadyH.nil)
      · refine step_call rfl 55 #[.tmp 77] #[29] rfl #[.slice (some ⟨b0, off, none⟩) el ec] (by simp [Act.eval]) (by go_simp) (HC56.out _ HB.out) ?_
        rintro e X ⟨v5, rfl, hO, hB⟩
        rcases hO.2 with ⟨_, h0⟩ | ⟨g, cap, cur, rfl, hbg, hg, _, _, _, htake⟩
        · exfalso; omega
        have G0 : Hid (Blk X g 52 cur.toList) := Lib.hid hg
        have HT : Hid (cur.toList.take (el * 8) = eflat es) := Lib.hid htake
        have PF : Hid (sp = [] ∨ ∃ b off, a1 = some ⟨b, off, none⟩ ∧ b ≠ g) := Lib.hid (by
          rcases P1.out with h | ⟨b, o, e, hb, _⟩
          · exact .inl h
          · exact .inr ⟨b, o, e, by omega⟩)
        have GG : Hid (w.heap.size + 1 < g) := Lib.hid (by have h := R0.out.lt; omega)
        replace B0 := Lib.hid (B0.out.keep hB)
        replace R0 := Lib.hid (R0.out.keep hB)
        replace HB := Lib.hid (HB.out.trans (hB.mono HB.out.size))
        replace P1 := Lib.hid (P1.out.below hB)
        clear hB hO hbg hg htake
        refine ⟨_, rfl, hK.out _ _ B0.out (fun hHeld => ?_)⟩
        clear hK K
        show wpAnyH _ _ _ _ _ _ _ (Act.put _ (some 78) _) _
        simp only [Act.put, List.setIfInBounds_toArray, List.set_cons_zero, List.set_cons_succ]
        refine wpAnyH_take (i := 6) (v := .agg #[.slice a1 sl c1, .slice (some ⟨g, 0, none⟩) el cap]) rfl (by kernel_rfl) (by kernel_rfl) (by kernel_rfl) (fun _ _ _ h => h) (Or.inl ⟨by rfl, by intro w' _; go_simp⟩) hHeld ?_
        show wpAnyH _ _ _ _ _ _ _ (Act.put _ (some 79) _) _
        simp only [Act.put, List.setIfInBounds_toArray, List.set_cons_zero, List.set_cons_succ]
        refine wpAnyH_ready (rs := [7]) (by kernel_rfl) (by simp) ?_
        refine AllReadyH.cons rfl (fun K hK => ?_) AllReadyH.nil
        refine step_web rfl rfl ?_
        intro X gN hN hgN hB
        have hR1 := R0.out.lt
        have NG : Hid (gN ≠ g) := Lib.hid (by have h := G0.out.lt; omega)
        have N1 : Hid (w.heap.size + 1 < gN) := Lib.hid (by omega)
        clear hR1
        replace B0 := Lib.hid (B0.out.keep hB)
        replace R0 := Lib.hid (R0.out.keep hB)
        replace G0 := Lib.hid (G0.out.keep hB)
        replace HB := Lib.hid (HB.out.trans (hB.mono HB.out.size))
        have PN : Hid (sp = [] ∨ ∃ b off, a1 = some ⟨b, off, none⟩ ∧ b ≠ gN) := Lib.hid (by
          rcases P1.out with h | ⟨b, o, e, hb, _⟩
          · exact .inl h
          · exact .inr ⟨b, o, e, by omega⟩)
        replace P1 := Lib.hid (P1.out.below hB)
        have N0 := Lib.hid hN
        clear hB hN hgN
        refine hK.out _ _ B0.out (fun hHeld => ?_)
        clear hK K
        show wpAnyH _ _ _ _ _ _ _ (Act.put _ (some 16) _) _
        simp only [Act.put, List.setIfInBounds_toArray, List.set_cons_zero, List.set_cons_succ]
        refine wpAnyH_ready (rs := [8]) (by kernel_rfl) (by simp) ?_
        refine AllReadyH.cons rfl (fun K hK => ?_) AllReadyH.nil
        refine step_store58 rfl (.tmp 16) (.tmp 79) rfl gN 31 (.slice none 0 0) (.slice none 0 0) a1 (some ⟨g, 0, none⟩) sl el c1 cap rfl rfl N0.out ?_
        have hB1 := B0.out.lt
        have hN1 := N1.out
        have hnG := NG.out
        have hZ := HB.out.size
        have HBx : Hid (Blk ((X.setCell ⟨gN, 0, none⟩ (.slice a1 sl c1)).setCell ⟨gN, 1, none⟩ (.slice (some ⟨g, 0, none⟩) el cap)) w.heap.size 31 [.slice sa sl sc, .slice (some ⟨b0, off, none⟩) el ec]) := Lib.hid ((B0.out.far (p := ⟨gN, 0, none⟩) (by show w.heap.size ≠ gN; omega) _).far (p := ⟨gN, 1, none⟩) (by show w.heap.size ≠ gN; omega) _)
        have HCUT : Hid (SentCut w ((X.setCell ⟨gN, 0, none⟩ (.slice a1 sl c1)).setCell ⟨gN, 1, none⟩ (.slice (some ⟨g, 0, none⟩) el cap)) sl el sp es gN g a1 c1 cap cur.toList) := Lib.hid ⟨Blk.set_ (Blk.set_ N0.out 0 (.slice a1 sl c1)) 1 (.slice (some ⟨g, 0, none⟩) el cap), (G0.out.far (p := ⟨gN, 0, none⟩) (by show g ≠ gN; omega) _).far (p := ⟨gN, 1, none⟩) (by show g ≠ gN; omega) _, HT.out, (P1.out.setFar PN.out _).setFar PN.out _, PF.out, PR.out, Z1.out, (R0.out.far (p := ⟨gN, 0, none⟩) (by show w.heap.size + 1 ≠ gN; omega) _).far (p := ⟨gN, 1, none⟩) (by show w.heap.size + 1 ≠ gN; omega) _, (HB.out.setCell (show w.heap.size ≤ gN by omega) _).setCell (show w.heap.size ≤ gN by omega) _, GG.out, NG.out, N1.out⟩
        refine hK.out _ _ HBx.out (fun hHeld => ?_)
        clear hK K
        show wpAnyH _ _ _ _ _ _ _ (Act.put _ none _) _
        simp only [Act.put]
        refine wpAnyH_done (by kernel_rfl) ?_ _
        go_wp2_with fail
        go_meet
        exact ⟨gN, g, a1, c1, cap, cur.toList, rfl, HCUT⟩
      · refine step_web rfl rfl ?_
        intro X gN hN hgN hB
        have hR1 := R0.out.lt
        have N1 : Hid (w.heap.size + 1 < gN) := Lib.hid (by omega)
        clear hR1
        replace B0 := Lib.hid (B0.out.keep hB)
        replace R0 := Lib.hid (R0.out.keep hB)
        replace HB := Lib.hid (HB.out.trans (hB.mono HB.out.size))
        have PN : Hid (sp = [] ∨ ∃ b off, a1 = some ⟨b, off, none⟩ ∧ b ≠ gN) := Lib.hid (by
          rcases P1.out with h | ⟨b, o, e, hb, _⟩
          · exact .inl h
          · exact .inr ⟨b, o, e, by omega⟩)
        replace P1 := Lib.hid (P1.out.below hB)
        have N0 := Lib.hid hN
        clear hB hN hgN
        refine hK.out _ _ B0.out (fun hHeld => ?_)
        clear hK K
        show wpAnyH _ _ _ _ _ _ _ (Act.put _ (some 16) _) _
        simp only [Act.put, List.setIfInBounds_toArray, List.set_cons_zero, List.set_cons_succ]
        refine wpAnyH_ready (rs := [5]) (by kernel_rfl) (by simp) ?_
        refine AllReadyH.cons rfl (fun K hK => ?_) AllReadyH.nil
        refine step_call rfl 55 #[.tmp 77] #[29] rfl #[.slice (some ⟨b0, off, none⟩) el ec] (by simp [Act.eval]) (by go_simp) (HC56.out _ HB.out) ?_
        rintro e X ⟨v5, rfl, hO, hB⟩
        rcases hO.2 with ⟨_, h0⟩ | ⟨g, cap, cur, rfl, hbg, hg, _, _, _, htake⟩
        · exfalso; omega
        have G0 : Hid (Blk X g 52 cur.toList) := Lib.hid hg
        have HT : Hid (cur.toList.take (el * 8) = eflat es) := Lib.hid htake
        have PF : Hid (sp = [] ∨ ∃ b off, a1 = some ⟨b, off, none⟩ ∧ b ≠ g) := Lib.hid (by
          rcases P1.out with h | ⟨b, o, e, hb, _⟩
          · exact .inl h
          · exact .inr ⟨b, o, e, by omega⟩)
        have GG : Hid (w.heap.size + 1 < g) := Lib.hid (by have h := R0.out.lt; omega)
        have NG : Hid (gN ≠ g) := Lib.hid (by have h := N0.out.lt; omega)
        replace B0 := Lib.hid (B0.out.keep hB)
        replace R0 := Lib.hid (R0.out.keep hB)
        replace N0 := Lib.hid (N0.out.keep hB)
        replace HB := Lib.hid (HB.out.trans (hB.mono HB.out.size))
        replace P1 := Lib.hid (P1.out.below hB)
        clear hB hO hbg hg htake
        refine ⟨_, rfl, hK.out _ _ B0.out (fun hHeld => ?_)⟩
        clear hK K
        show wpAnyH _ _ _ _ _ _ _ (Act.put _ (some 78) _) _
        simp only [Act.put, List.setIfInBounds_toArray, List.set_cons_zero, List.set_cons_succ]
        refine wpAnyH_take (i := 6) (v := .agg #[.slice a1 sl c1, .slice (some ⟨g, 0, none⟩) el cap]) rfl (by kernel_rfl) (by kernel_rfl) (by kernel_rfl) (fun _ _ _ h => h) (Or.inl ⟨by rfl, by intro w' _; go_simp⟩) hHeld ?_
        show wpAnyH _ _ _ _ _ _ _ (Act.put _ (some 79) _) _
        simp only [Act.put, List.setIfInBounds_toArray, List.set_cons_zero, List.set_cons_succ]
        refine wpAnyH_ready (rs := [8]) (by kernel_rfl) (by simp) ?_
        refine AllReadyH.cons rfl (fun K hK => ?_) AllReadyH.nil
        refine step_store58 rfl (.tmp 16) (.tmp 79) rfl gN 31 (.slice none 0 0) (.slice none 0 0) a1 (some ⟨g, 0, none⟩) sl el c1 cap rfl rfl N0.out ?_
        have hB1 := B0.out.lt
        have hN1 := N1.out
        have hnG := NG.out
        have hZ := HB.out.size
        have HBx : Hid (Blk ((X.setCell ⟨gN, 0, none⟩ (.slice a1 sl c1)).setCell ⟨gN, 1, none⟩ (.slice (some ⟨g, 0, none⟩) el cap)) w.heap.size 31 [.slice sa sl sc, .slice (some ⟨b0, off, none⟩) el ec]) := Lib.hid ((B0.out.far (p := ⟨gN, 0, none⟩) (by show w.heap.size ≠ gN; omega) _).far (p := ⟨gN, 1, none⟩) (by show w.heap.size ≠ gN; omega) _)
        have HCUT : Hid (SentCut w ((X.setCell ⟨gN, 0, none⟩ (.slice a1 sl c1)).setCell ⟨gN, 1, none⟩ (.slice (some ⟨g, 0, none⟩) el cap)) sl el sp es gN g a1 c1 cap cur.toList) := Lib.hid ⟨Blk.set_ (Blk.set_ N0.out 0 (.slice a1 sl c1)) 1 (.slice (some ⟨g, 0, none⟩) el cap), (G0.out.far (p := ⟨gN, 0, none⟩) (by show g ≠ gN; omega) _).far (p := ⟨gN, 1, none⟩) (by show g ≠ gN; omega) _, HT.out, (P1.out.setFar PN.out _).setFar PN.out _, PF.out, PR.out, Z1.out, (R0.out.far (p := ⟨gN, 0, none⟩) (by show w.heap.size + 1 ≠ gN; omega) _).far (p := ⟨gN, 1, none⟩) (by show w.heap.size + 1 ≠ gN; omega) _, (HB.out.setCell (show w.heap.size ≤ gN by omega) _).setCell (show w.heap.size ≤ gN by omega) _, GG.out, NG.out, N1.out⟩
        refine hK.out _ _ HBx.out (fun hHeld => ?_)
        clear hK K
        show wpAnyH _ _ _ _ _ _ _ (Act.put _ none _) _
        simp only [Act.put]
        refine wpAnyH_done (by kernel_rfl) ?_ _
        go_wp2_with fail
        go_meet
        exact ⟨gN, g, a1, c1, cap, cur.toList, rfl, HCUT⟩
    · refine step_web rfl rfl ?_
      intro X gN hN hgN hB
      have hR1 := R0.out.lt
      have N1 : Hid (w.heap.size + 1 < gN) := Lib.hid (by omega)
      clear hR1
      replace B0 := Lib.hid (B0.out.keep hB)
      replace R0 := Lib.hid (R0.out.keep hB)
      replace HB := Lib.hid (HB.out.trans (hB.mono HB.out.size))
      have N0 := Lib.hid hN
      clear hB hN hgN
      refine hK.out _ _ B0.out (fun hHeld => ?_)
      clear hK K
      show wpAnyH _ _ _ _ _ _ _ (Act.put _ (some 16) _) _
      simp only [Act.put, List.setIfInBounds_toArray, List.set_cons_zero, List.set_cons_succ]
      refine wpAnyH_ready (rs := [2]) (by kernel_rfl) (by simp) ?_
      refine AllReadyH.cons rfl (fun K hK => ?_) AllReadyH.nil
      refine step_call rfl 54 #[.tmp 74] #[28] rfl #[.slice sa sl sc] (by simp [Act.eval]) (by go_simp) (HC39.out _ HB.out) ?_
      rintro e X ⟨a1, c1, rfl, h1, hB, h2, h3⟩
      have P1 := Lib.hid h1
      have Z1 := Lib.hid h2
      have PR : Hid (sp = [] ∨ ∃ b off, a1 = some ⟨b, off, none⟩ ∧ b ≠ w.heap.size + 1) := Lib.hid (by
        rcases h1 with h | ⟨b, o, e, hb, _⟩
        · exact .inl h
        · exact .inr ⟨b, o, e, by have h4 := h3 b o none e; have h5 := R0.out.lt; omega⟩)
      have PN : Hid (sp = [] ∨ ∃ b off, a1 = some ⟨b, off, none⟩ ∧ b ≠ gN) := Lib.hid (by
        rcases h1 with h | ⟨b, o, e, hb, _⟩
        · exact .inl h
        · exact .inr ⟨b, o, e, by have h4 := h3 b o none e; have h5 := N0.out.lt; omega⟩)
      replace B0 := Lib.hid (B0.out.keep hB)
      replace R0 := Lib.hid (R0.out.keep hB)
      replace N0 := Lib.hid (N0.out.keep hB)
      replace HB := Lib.hid (HB.out.trans (hB.mono HB.out.size))
      clear hB h1 h2 h3
      refine ⟨_, rfl, hK.out _ _ B0.out (fun hHeld => ?_)⟩
      clear hK K
      show wpAnyH _ _ _ _ _ _ _ (Act.put _ (some 75) _) _
      simp only [Act.put, List.setIfInBounds_toArray, List.set_cons_zero, List.set_cons_succ]
      refine wpAnyH_ready (rs := [5]) (by kernel_rfl) (by simp) ?_
      refine AllReadyH.cons rfl (fun K hK => ?_) AllReadyH.nil
      refine step_call rfl 55 #[.tmp 77] #[29] rfl #[.slice (some ⟨b0, off, none⟩) el ec] (by simp [Act.eval]) (by go_simp) (HC56.out _ HB.out) ?_
      rintro e X ⟨v5, rfl, hO, hB⟩
      rcases hO.2 with ⟨_, h0⟩ | ⟨g, cap, cur, rfl, hbg, hg, _, _, _, htake⟩
      · exfalso; omega
      have G0 : Hid (Blk X g 52 cur.toList) := Lib.hid hg
      have HT : Hid (cur.toList.take (el * 8) = eflat es) := Lib.hid htake
      have PF : Hid (sp = [] ∨ ∃ b off, a1 = some ⟨b, off, none⟩ ∧ b ≠ g) := Lib.hid (by
        rcases P1.out with h | ⟨b, o, e, hb, _⟩
        · exact .inl h
        · exact .inr ⟨b, o, e, by omega⟩)
      have GG : Hid (w.heap.size + 1 < g) := Lib.hid (by have h := R0.out.lt; omega)
      have NG : Hid (gN ≠ g) := Lib.hid (by have h := N0.out.lt; omega)
      replace B0 := Lib.hid (B0.out.keep hB)
      replace R0 := Lib.hid (R0.out.keep hB)
      replace N0 := Lib.hid (N0.out.keep hB)
      replace HB := Lib.hid (HB.out.trans (hB.mono HB.out.size))
      replace P1 := Lib.hid (P1.out.below hB)
      clear hB hO hbg hg htake
      refine ⟨_, rfl, hK.out _ _ B0.out (fun hHeld => ?_)⟩
      clear hK K
      show wpAnyH _ _ _ _ _ _ _ (Act.put _ (some 78) _) _
      simp only [Act.put, List.setIfInBounds_toArray, List.set_cons_zero, List.set_cons_succ]
      refine wpAnyH_take (i := 6) (v := .agg #[.slice a1 sl c1, .slice (some ⟨g, 0, none⟩) el cap]) rfl (by kernel_rfl) (by kernel_rfl) (by kernel_rfl) (fun _ _ _ h => h) (Or.inl ⟨by rfl, by intro w' _; go_simp⟩) hHeld ?_
      show wpAnyH _ _ _ _ _ _ _ (Act.put _ (some 79) _) _
      simp only [Act.put, List.setIfInBounds_toArray, List.set_cons_zero, List.set_cons_succ]
      refine wpAnyH_ready (rs := [8]) (by kernel_rfl) (by simp) ?_
      refine AllReadyH.cons rfl (fun K hK => ?_) AllReadyH.nil
      refine step_store58 rfl (.tmp 16) (.tmp 79) rfl gN 31 (.slice none 0 0) (.slice none 0 0) a1 (some ⟨g, 0, none⟩) sl el c1 cap rfl rfl N0.out ?_
      have hB1 := B0.out.lt
      have hN1 := N1.out
      have hnG := NG.out
      have hZ := HB.out.size
      have HBx : Hid (Blk ((X.setCell ⟨gN, 0, none⟩ (.slice a1 sl c1)).setCell ⟨gN, 1, none⟩ (.slice (some ⟨g, 0, none⟩) el cap)) w.heap.size 31 [.slice sa sl sc, .slice (some ⟨b0, off, none⟩) el ec]) := Lib.hid ((B0.out.far (p := ⟨gN, 0, none⟩) (by show w.heap.size ≠ gN; omega) _).far (p := ⟨gN, 1, none⟩) (by show w.heap.size ≠ gN; omega) _)
      have HCUT : Hid (SentCut w ((X.setCell ⟨gN, 0, none⟩ (.slice a1 sl c1)).setCell ⟨gN, 1, none⟩ (.slice (some ⟨g, 0, none⟩) el cap)) sl el sp es gN g a1 c1 cap cur.toList) := Lib.hid ⟨Blk.set_ (Blk.set_ N0.out 0 (.slice a1 sl c1)) 1 (.slice (some ⟨g, 0, none⟩) el cap), (G0.out.far (p := ⟨gN, 0, none⟩) (by show g ≠ gN; omega) _).far (p := ⟨gN, 1, none⟩) (by show g ≠ gN; omega) _, HT.out, (P1.out.setFar PN.out _).setFar PN.out _, PF.out, PR.out, Z1.out, (R0.out.far (p := ⟨gN, 0, none⟩) (by show w.heap.size + 1 ≠ gN; omega) _).far (p := ⟨gN, 1, none⟩) (by show w.heap.size + 1 ≠ gN; omega) _, (HB.out.setCell (show w.heap.size ≤ gN by omega) _).setCell (show w.heap.size ≤ gN by omega) _, GG.out, NG.out, N1.out⟩
      refine hK.out _ _ HBx.out (fun hHeld => ?_)
      clear hK K
      show wpAnyH _ _ _ _ _ _ _ (Act.put _ none _) _
      simp only [Act.put]
      refine wpAnyH_done (by kernel_rfl) ?_ _
      go_wp2_with fail
      go_meet
      exact ⟨gN, g, a1, c1, cap, cur.toList, rfl, HCUT⟩
  case rest =>
    obtain ⟨gN, g, a1, c1, cap, cur, rfl, HCUT⟩ := hcut
    have N0 := Lib.hid HCUT.out.N
    have G0 := Lib.hid HCUT.out.G
    have hT := Lib.hid HCUT.out.T
    have HG2 := Lib.hid (cur_get hT.out HEL.out hk HZE.out 2 (by omega))
    have HG3 := Lib.hid (cur_get hT.out HEL.out hk HZE.out 3 (by omega))
    have hgn := HCUT.out.gn
    have hg1 := HCUT.out.g1
    go_upto_region 17 with fail
    replace N0 := Lib.hid (Blk.drewN N0.out 1)
    replace G0 := Lib.hid (Blk.drewN G0.out 1)
    refine wp_region_held_drew (S := fun w' => Blk w' gN 31 [.slice a1 sl c1, .slice (some ⟨g, 0, none⟩) el cap]) (by kernel_rfl) N0.out (fun hHeld => ?_)
    have HWX : Hid (Below wc.heap.size wc (wc.drewN 1)) := Lib.hid (below_drewN (Below.refl _ _) 1)
    generalize hY : wc.drew = X at hHeld ⊢
    rw [show wc.drewN 1 = X from hY] at N0 G0 HWX
    clear hY
    refine wpAnyH_take (i := 0) (v := .pointer (some ⟨gN, 1, none⟩)) rfl (by kernel_rfl) (by kernel_rfl) (by kernel_rfl) (fun _ _ _ h => h) (Or.inl ⟨by rfl, by intro w' _; go_simp⟩) hHeld ?_
    show wpAnyH _ _ _ _ _ _ _ (Act.put _ (some 80) _) _
    simp only [Act.put, List.setIfInBounds_toArray, List.set_cons_zero, List.set_cons_succ]
    refine wpAnyH_take (i := 1) (v := .slice (some ⟨g, 0, none⟩) el cap) rfl (by kernel_rfl) (by kernel_rfl) (by kernel_rfl) (fun _ _ _ h => h) (Or.inl ⟨by rfl, by intro w' h; have k1 := h.cell 0; have k2 := h.cell 1; simp only [List.getElem?_cons_zero, List.getElem?_cons_succ] at k1 k2; go_simp⟩) hHeld ?_
    show wpAnyH _ _ _ _ _ _ _ (Act.put _ (some 81) _) _
    simp only [Act.put, List.setIfInBounds_toArray, List.set_cons_zero, List.set_cons_succ]
    refine wpAnyH_take (i := 2) (v := .int .i64 (k : Int)) rfl (by kernel_rfl) (by kernel_rfl) (by kernel_rfl) (fun _ _ _ h => h) (Or.inl ⟨by rfl, fun w _ => by rfl⟩) hHeld ?_
    show wpAnyH _ _ _ _ _ _ _ (Act.put _ (some 82) _) _
    simp only [Act.put, List.setIfInBounds_toArray, List.set_cons_zero, List.set_cons_succ]
    refine wpAnyH_take (i := 3) (v := .int .i64 0) rfl (by kernel_rfl) (by kernel_rfl) (by kernel_rfl) (fun _ _ _ h => h) (Or.inl ⟨by rfl, fun w _ => by rfl⟩) hHeld ?_
    show wpAnyH _ _ _ _ _ _ _ (Act.put _ (some 83) _) _
    simp only [Act.put, List.setIfInBounds_toArray, List.set_cons_zero, List.set_cons_succ]
    refine wpAnyH_take (i := 4) (v := .pointer (some ⟨gN, 1, none⟩)) rfl (by kernel_rfl) (by kernel_rfl) (by kernel_rfl) (fun _ _ _ h => h) (Or.inl ⟨by rfl, by intro w' _; go_simp⟩) hHeld ?_
    show wpAnyH _ _ _ _ _ _ _ (Act.put _ (some 84) _) _
    simp only [Act.put, List.setIfInBounds_toArray, List.set_cons_zero, List.set_cons_succ]
    refine wpAnyH_take (i := 5) (v := .slice (some ⟨g, 0, none⟩) el cap) rfl (by kernel_rfl) (by kernel_rfl) (by kernel_rfl) (fun _ _ _ h => h) (Or.inl ⟨by rfl, by intro w' h; have k1 := h.cell 0; have k2 := h.cell 1; simp only [List.getElem?_cons_zero, List.getElem?_cons_succ] at k1 k2; go_simp⟩) hHeld ?_
    show wpAnyH _ _ _ _ _ _ _ (Act.put _ (some 85) _) _
    simp only [Act.put, List.setIfInBounds_toArray, List.set_cons_zero, List.set_cons_succ]
    refine wpAnyH_take (i := 6) (v := .int .i64 (k : Int)) rfl (by kernel_rfl) (by kernel_rfl) (by kernel_rfl) (fun _ _ _ h => h) (Or.inl ⟨by rfl, fun w _ => by rfl⟩) hHeld ?_
    show wpAnyH _ _ _ _ _ _ _ (Act.put _ (some 86) _) _
    simp only [Act.put, List.setIfInBounds_toArray, List.set_cons_zero, List.set_cons_succ]
    refine wpAnyH_take (i := 7) (v := .int .i64 0) rfl (by kernel_rfl) (by kernel_rfl) (by kernel_rfl) (fun _ _ _ h => h) (Or.inl ⟨by rfl, fun w _ => by rfl⟩) hHeld ?_
    show wpAnyH _ _ _ _ _ _ _ (Act.put _ (some 87) _) _
    simp only [Act.put, List.setIfInBounds_toArray, List.set_cons_zero, List.set_cons_succ]
    refine wpAnyH_take (i := 8) (v := .int .i64 1) rfl (by kernel_rfl) (by kernel_rfl) (by kernel_rfl) (fun _ _ _ h => h) (Or.inl ⟨by rfl, by intro w' _; go_simp; try rfl⟩) hHeld ?_
    show wpAnyH _ _ _ _ _ _ _ (Act.put _ (some 88) _) _
    simp only [Act.put, List.setIfInBounds_toArray, List.set_cons_zero, List.set_cons_succ]
    refine wpAnyH_take (i := 9) (v := .int .u64 (ce - amt)) rfl (by kernel_rfl) (by kernel_rfl) (by kernel_rfl) (fun _ _ _ h => h) (Or.inl ⟨by rfl, fun w _ => by rfl⟩) hHeld ?_
    show wpAnyH _ _ _ _ _ _ _ (Act.put _ (some 89) _) _
    simp only [Act.put, List.setIfInBounds_toArray, List.set_cons_zero, List.set_cons_succ]
    refine wpAnyH_take (i := 10) (v := .int .u64 (de + amt)) rfl (by kernel_rfl) (by kernel_rfl) (by kernel_rfl) (fun _ _ _ h => h) (Or.inl ⟨by rfl, fun w _ => by rfl⟩) hHeld ?_
    show wpAnyH _ _ _ _ _ _ _ (Act.put _ (some 90) _) _
    simp only [Act.put, List.setIfInBounds_toArray, List.set_cons_zero, List.set_cons_succ]
    refine wpAnyH_take (i := 11) (v := .pointer (some ⟨g, k * 8, none⟩)) rfl (by kernel_rfl) (by kernel_rfl) (by kernel_rfl) (fun _ _ _ h => h) (Or.inl ⟨by rfl, by intro w' _; go_simp⟩) hHeld ?_
    show wpAnyH _ _ _ _ _ _ _ (Act.put _ (some 91) _) _
    simp only [Act.put, List.setIfInBounds_toArray, List.set_cons_zero, List.set_cons_succ]
    refine wpAnyH_take (i := 12) (v := .pointer (some ⟨g, k * 8 + 2, none⟩)) rfl (by kernel_rfl) (by kernel_rfl) (by kernel_rfl) (fun _ _ _ h => h) (Or.inl ⟨by rfl, by intro w' _; go_simp⟩) hHeld ?_
    show wpAnyH _ _ _ _ _ _ _ (Act.put _ (some 92) _) _
    simp only [Act.put, List.setIfInBounds_toArray, List.set_cons_zero, List.set_cons_succ]
    refine wpAnyH_take (i := 13) (v := .pointer (some ⟨g, k * 8 + 2, none⟩)) rfl (by kernel_rfl) (by kernel_rfl) (by kernel_rfl) (fun _ _ _ h => h) (Or.inl ⟨by rfl, by intro w' _; go_simp⟩) hHeld ?_
    show wpAnyH _ _ _ _ _ _ _ (Act.put _ (some 93) _) _
    simp only [Act.put, List.setIfInBounds_toArray, List.set_cons_zero, List.set_cons_succ]
    refine wpAnyH_take (i := 15) (v := .pointer (some ⟨g, k * 8, none⟩)) rfl (by kernel_rfl) (by kernel_rfl) (by kernel_rfl) (fun _ _ _ h => h) (Or.inl ⟨by rfl, by intro w' _; go_simp⟩) hHeld ?_
    show wpAnyH _ _ _ _ _ _ _ (Act.put _ (some 94) _) _
    simp only [Act.put, List.setIfInBounds_toArray, List.set_cons_zero, List.set_cons_succ]
    refine wpAnyH_take (i := 16) (v := .pointer (some ⟨g, k * 8 + 2, none⟩)) rfl (by kernel_rfl) (by kernel_rfl) (by kernel_rfl) (fun _ _ _ h => h) (Or.inl ⟨by rfl, by intro w' _; go_simp⟩) hHeld ?_
    show wpAnyH _ _ _ _ _ _ _ (Act.put _ (some 95) _) _
    simp only [Act.put, List.setIfInBounds_toArray, List.set_cons_zero, List.set_cons_succ]
    refine wpAnyH_ready (rs := [14]) (by kernel_rfl) (by simp) ?_
    refine AllReadyH.cons rfl (fun K hK => ?_) AllReadyH.nil
    refine step_cell66 rfl (.tmp 93) (.tmp 89) rfl g (k * 8 + 2) 52 cur (.int .u64 ce) HG2.out (ce - amt) rfl rfl G0.out ?_
    have N1 := Lib.hid (N0.out.far (p := ⟨g, k * 8 + 2, none⟩) (by show gN ≠ g; exact hgn) (.int .u64 (ce - amt)))
    have G1 := Lib.hid (G0.out.set_ (k * 8 + 2) (.int .u64 (ce - amt)))
    refine hK.out _ _ N1.out (fun hHeld => ?_)
    clear hK K
    show wpAnyH _ _ _ _ _ _ _ (Act.put _ none _) _
    simp only [Act.put]
    refine wpAnyH_take (i := 17) (v := .pointer (some ⟨g, k * 8 + 3, none⟩)) rfl (by kernel_rfl) (by kernel_rfl) (by kernel_rfl) (fun _ _ _ h => h) (Or.inl ⟨by rfl, by intro w' _; go_simp⟩) hHeld ?_
    show wpAnyH _ _ _ _ _ _ _ (Act.put _ (some 96) _) _
    simp only [Act.put, List.setIfInBounds_toArray, List.set_cons_zero, List.set_cons_succ]
    refine wpAnyH_ready (rs := [18]) (by kernel_rfl) (by simp) ?_
    refine AllReadyH.cons rfl (fun K hK => ?_) AllReadyH.nil
    refine step_cell66 rfl (.tmp 96) (.tmp 90) rfl g (k * 8 + 3) 52 (cur.set (k * 8 + 2) (.int .u64 (ce - amt))) (.int .u64 de) (by rw [List.getElem?_set, if_neg (by omega)]; exact HG3.out) (de + amt) rfl rfl G1.out ?_
    have N2 := Lib.hid (N1.out.far (p := ⟨g, k * 8 + 3, none⟩) (by show gN ≠ g; exact hgn) (.int .u64 (de + amt)))
    have G2 := Lib.hid (G1.out.set_ (k * 8 + 3) (.int .u64 (de + amt)))
    replace hHeld := trivial
    refine hK.out _ _ N2.out (fun hHeld => ?_)
    clear hK K
    show wpAnyH _ _ _ _ _ _ _ (Act.put _ none _) _
    simp only [Act.put]
    refine wpAnyH_done (by kernel_rfl) ?_ _
    have HB2 : Hid (Below w.heap.size w ((X.setCell ⟨g, k * 8 + 2, none⟩ (.int .u64 (ce - amt))).setCell ⟨g, k * 8 + 3, none⟩ (.int .u64 (de + amt)))) := Lib.hid (((HCUT.out.B.trans (HWX.out.mono HCUT.out.B.size)).setCell (show w.heap.size ≤ g by omega) _).setCell (show w.heap.size ≤ g by omega) _)
    have R2 : Hid (Blk ((X.setCell ⟨g, k * 8 + 2, none⟩ (.int .u64 (ce - amt))).setCell ⟨g, k * 8 + 3, none⟩ (.int .u64 (de + amt))) (w.heap.size + 1) 31 [.slice none 0 0, .slice none 0 0]) := Lib.hid (((HCUT.out.R.keep HWX.out).far (p := ⟨g, k * 8 + 2, none⟩) (by show w.heap.size + 1 ≠ g; omega) _).far (p := ⟨g, k * 8 + 3, none⟩) (by show w.heap.size + 1 ≠ g; omega) _)
    have P2 : Hid (SpotRow ((X.setCell ⟨g, k * 8 + 2, none⟩ (.int .u64 (ce - amt))).setCell ⟨g, k * 8 + 3, none⟩ (.int .u64 (de + amt))) a1 sp) := Lib.hid (((HCUT.out.P.below HWX.out).setFar HCUT.out.far _).setFar HCUT.out.far _)
    have hn1 := HCUT.out.n1
    generalize ((X.setCell ⟨g, k * 8 + 2, none⟩ (.int .u64 (ce - amt))).setCell ⟨g, k * 8 + 3, none⟩ (.int .u64 (de + amt))) = Z at HB2 R2 P2 N2 G2 ⊢
    have k1 := N2.out.cell 0
    have k2 := N2.out.cell 1
    simp only [List.getElem?_cons_zero, List.getElem?_cons_succ] at k1 k2
    have r1 := R2.out.cell 0
    have r2 := R2.out.cell 1
    simp only [List.getElem?_cons_zero, List.getElem?_cons_succ] at r1 r2
    have r3 := R2.out.frozen 0
    have r4 := R2.out.frozen 1
    go_wp2
    exact bodyPost_ret (results58 Try.results27 _ _ (w.heap.size + 1) 31 a1 (some ⟨g, 0, none⟩) sl el c1 cap _ rfl rfl (Blk.set_ (Blk.set_ R2.out 0 (.slice a1 sl c1)) 1 (.slice (some ⟨g, 0, none⟩) el cap))) rfl ⟨_, by rw [HX.out]; rfl, (HB2.out.setCell (show w.heap.size ≤ w.heap.size + 1 by omega) _).setCell (show w.heap.size ≤ w.heap.size + 1 by omega) _, fun _ => ⟨a1, c1, some ⟨g, 0, none⟩, cap, by rw [HSL2.out, List.length_set, HSL.out, HEL.out], ((P2.out.setFar HCUT.out.farR _).setFar HCUT.out.farR _), by rw [HSL2.out]; exact row_set ((G2.out.far (p := ⟨w.heap.size + 1, 0, none⟩) (by show g ≠ w.heap.size + 1; omega) _).far (p := ⟨w.heap.size + 1, 1, none⟩) (by show g ≠ w.heap.size + 1; omega) _) (by exact HCS2.out _ hT.out _ _) (by rw [List.length_set]; exact HEL.out), HCUT.out.nil, fun h => by cases h⟩, fun h => absurd HX.out h⟩

set_option maxRecDepth 100000 in
set_option maxHeartbeats 4000000 in
theorem sent_good1 (sa : Option Addr) (sl sc : Nat) (ea : Option Addr) (el ec : Nat) (sp : List (Int × Int)) (es : List Ed) (k : Nat) (node amt : Int) (w : World) (HS : Hid (SpotRow w sa sp)) (HE : Hid (EdgeRow w ea es)) (HSL : Hid (sp.length = sl)) (HEL : Hid (es.length = el)) (hel2 : el ≤ 1000) (hsl2 : sl ≤ 1000) (HSN : Hid (sa = none → sp = [] ∧ sc = 0)) (HEN : Hid (ea = none → es = [] ∧ ec = 0)) (pe qe ce de fe ge he ie : Int) (hc : checkE sl es = 0) (hk : k < el) (hz : es.getD k ed0 = ⟨pe, qe, ce, de, fe, ge, he, ie⟩) (hsd : sideE ⟨pe, qe, ce, de, fe, ge, he, ie⟩ node = 1) (hwce : Word ce) (hwde : Word de) (hamt : Word amt) (hf : ¬ de < amt) (hm : ce + amt < 18446744073709551616) :
    Calls Try.prog 27 #[.agg #[.slice sa sl sc, .slice ea el ec], .int .i64 (k : Int), .int .i64 node, .int .u64 amt] w (SentPost w sp es (k : Int) node amt) := by
  have HX : Hid (sentErr sp.length es (k : Int) node amt = 0) := Lib.hid (by unfold sentErr; rw [HSL.out, if_neg (by rw [hc]; simp), if_neg (by rw [HEL.out]; omega), Int.toNat_natCast, hz, hsd]; rw [if_neg (by omega), if_neg (by simp [canE, subE]; omega)]; simp [canE, addE]; omega)
  have HSL2 : Hid (sentL es (k : Int) node amt = es.set k ⟨pe, qe, ce + amt, de - amt, fe, ge, he, ie⟩) := Lib.hid (by unfold sentL; rw [Int.toNat_natCast, hz, hsd]; rfl)
  have HCS2 : Hid (∀ cur : List Value, cur.take (el * 8) = eflat es → ∀ x y : Int, ((cur.set (k * 8 + 2) (.int .u64 x)).set (k * 8 + 3) (.int .u64 y)).take (el * 8) = eflat (es.set k ⟨pe, qe, x, y, fe, ge, he, ie⟩)) := Lib.hid fun cur hT x y => cur_set (e := ⟨pe, qe, ce, de, fe, ge, he, ie⟩) x y hT HEL.out hk hz
  have HZE := Lib.hid hz
  have HC39 : Hid (∀ X, Below w.heap.size w X → Calls Try.prog 54 #[.slice sa sl sc] X (Clone39 X sp sl)) := Lib.hid fun X hX => by
    have h := clone39_any sa sc sp X (HS.out.below hX) HSN.out (by rw [HSL.out]; omega)
    rw [HSL.out] at h
    exact h
  have HC56a : Hid (∀ X, Below w.heap.size w X → Calls Try.prog 55 #[.slice ea el ec] X (Clone56 X es el)) := Lib.hid fun X hX => by
    have h := clone56_any ea ec es X (HE.out.below hX) HEN.out (by rw [HEL.out]; omega)
    rw [HEL.out] at h
    exact h
  have s1 : subE de amt = 0 := by unfold subE; rw [if_neg hf]
  have s2 : subV de amt = de - amt := by unfold subV; rw [if_neg hf]
  have s3 : addE ce amt = 0 := by unfold addE; rw [if_pos hm]
  have s4 : addV ce amt = ce + amt := by unfold addV; rw [if_pos hm]
  have HC0 := Lib.hid hc
  have HCK : Hid (∀ W, Below w.heap.size w W → Calls Try.prog 18 #[.agg #[.slice sa sl sc, .slice ea el ec]] W fun r w' => r = .returned (.int .i64 0) ∧ Below W.heap.size W w') := Lib.hid fun W hW => by
    have h := check_any sa sl sc ea el ec es W (HE.out.below hW) HEL.out (by omega) (by omega)
    rw [HC0.out] at h
    exact h
  rcases HE.out with h0 | ⟨b0, off, hea, hb, hcx⟩
  · exfalso; have h := HEL.out; rw [h0] at h; simp at h; omega
  have HEA := Lib.hid hea
  clear hea
  have hcs := hcx k (by rw [HEL.out]; exact hk)
  rw [hz] at hcs
  have HCS := Lib.hid hcs
  clear hcs
  have HSD : Hid (∀ w, Calls Try.prog 20 #[.agg #[.int .i64 pe, .int .i64 qe, .int .u64 ce, .int .u64 de, .int .u64 fe, .int .u64 ge, .int .u64 he, .int .u64 ie], .int .i64 node] w fun r w' => r = .returned (.int .i64 1) ∧ Below w.heap.size w w') := Lib.hid fun w => by
    have h := eside_any ⟨pe, qe, ce, de, fe, ge, he, ie⟩ node w
    rw [hsd] at h
    exact h
  have hk1 : (0 : Int) ≤ (k : Int) := by omega
  have hk2 : (k : Int) < (el : Int) := by omega
  have hk3 : ¬ ((k : Int) < 0) := by omega
  have hk4 : ¬ ((el : Int) ≤ (k : Int)) := by omega
  clear hcx hz hsd hc
  go_enter Try.func27, Try.ntmps27
  go_wp2_with fail
  have B0 : Hid (Blk ((w.alloc (.cells #[.slice sa sl sc, .slice ea el ec] 31)).alloc (.cells #[.slice none 0 0, .slice none 0 0] 31)) w.heap.size 31 [.slice sa sl sc, .slice ea el ec]) := Lib.hid ((Blk.mk_ rfl).alloc _)
  have R0 : Hid (Blk ((w.alloc (.cells #[.slice sa sl sc, .slice ea el ec] 31)).alloc (.cells #[.slice none 0 0, .slice none 0 0] 31)) (w.heap.size + 1) 31 [.slice none 0 0, .slice none 0 0]) := Lib.hid (Blk.mk_ (by simp))
  have HB : Hid (Below w.heap.size w ((w.alloc (.cells #[.slice sa sl sc, .slice ea el ec] 31)).alloc (.cells #[.slice none 0 0, .slice none 0 0] 31))) := Lib.hid (((Below.refl _ _).alloc (Nat.le_refl _) _).alloc (by simp) _)
  generalize ((w.alloc (.cells #[.slice sa sl sc, .slice ea el ec] 31)).alloc (.cells #[.slice none 0 0, .slice none 0 0] 31)) = W at B0 R0 HB ⊢
  refine (HCK.out W HB.out).mono ?_
  rintro e Y ⟨rfl, hB⟩
  replace B0 := Lib.hid (B0.out.keep hB)
  replace R0 := Lib.hid (R0.out.keep hB)
  replace HB := Lib.hid (HB.out.trans (hB.mono HB.out.size))
  clear hB
  have hea := HEA.out
  subst hea
  have k1 := B0.out.cell 0
  have k2 := B0.out.cell 1
  simp only [List.getElem?_cons_zero, List.getElem?_cons_succ] at k1 k2
  have hb3 : b0 < Y.heap.size := Nat.lt_of_lt_of_le hb HB.out.size
  have hcs := HCS.out
  have e0 : Y.cell? ⟨b0, off + k * 8, none⟩ = some (.int .i64 pe) := (HB.out.cell (p := ⟨b0, off + k * 8, none⟩) hb).trans (hcs 0 _ rfl)
  have e1 : Y.cell? ⟨b0, off + k * 8 + 1, none⟩ = some (.int .i64 qe) := (HB.out.cell (p := ⟨b0, off + k * 8 + 1, none⟩) hb).trans (hcs 1 _ rfl)
  have e2 : Y.cell? ⟨b0, off + k * 8 + 2, none⟩ = some (.int .u64 ce) := (HB.out.cell (p := ⟨b0, off + k * 8 + 2, none⟩) hb).trans (hcs 2 _ rfl)
  have e3 : Y.cell? ⟨b0, off + k * 8 + 3, none⟩ = some (.int .u64 de) := (HB.out.cell (p := ⟨b0, off + k * 8 + 3, none⟩) hb).trans (hcs 3 _ rfl)
  have e4 : Y.cell? ⟨b0, off + k * 8 + 4, none⟩ = some (.int .u64 fe) := (HB.out.cell (p := ⟨b0, off + k * 8 + 4, none⟩) hb).trans (hcs 4 _ rfl)
  have e5 : Y.cell? ⟨b0, off + k * 8 + 5, none⟩ = some (.int .u64 ge) := (HB.out.cell (p := ⟨b0, off + k * 8 + 5, none⟩) hb).trans (hcs 5 _ rfl)
  have e6 : Y.cell? ⟨b0, off + k * 8 + 6, none⟩ = some (.int .u64 he) := (HB.out.cell (p := ⟨b0, off + k * 8 + 6, none⟩) hb).trans (hcs 6 _ rfl)
  have e7 : Y.cell? ⟨b0, off + k * 8 + 7, none⟩ = some (.int .u64 ie) := (HB.out.cell (p := ⟨b0, off + k * 8 + 7, none⟩) hb).trans (hcs 7 _ rfl)
  clear hcs
  go_wp2_with fail
  refine (HSD.out _).mono ?_
  rintro e Y1 ⟨rfl, hB⟩
  clear e0 e1 e2 e3 e4 e5 e6 e7 k1 k2 hb3
  replace B0 := Lib.hid (B0.out.keep hB)
  replace R0 := Lib.hid (R0.out.keep hB)
  replace HB := Lib.hid (HB.out.trans (hB.mono HB.out.size))
  clear hB
  have HC56 := HC56a
  clear HC56a
  have k1 := B0.out.cell 0
  have k2 := B0.out.cell 1
  simp only [List.getElem?_cons_zero, List.getElem?_cons_succ] at k1 k2
  have hb3 : b0 < Y1.heap.size := Nat.lt_of_lt_of_le hb HB.out.size
  have hcs := HCS.out
  have e2 : Y1.cell? ⟨b0, off + k * 8 + 2, none⟩ = some (.int .u64 ce) := (HB.out.cell (p := ⟨b0, off + k * 8 + 2, none⟩) hb).trans (hcs 2 _ rfl)
  have e3 : Y1.cell? ⟨b0, off + k * 8 + 3, none⟩ = some (.int .u64 de) := (HB.out.cell (p := ⟨b0, off + k * 8 + 3, none⟩) hb).trans (hcs 3 _ rfl)
  clear hcs
  go_wp2_with fail
  have D0 : Hid (Blk (Y1.alloc (.cells #[.int .u64 ce, .int .u64 de] 49)) Y1.heap.size 49 [.int .u64 ce, .int .u64 de]) := Lib.hid (Blk.mk_ rfl)
  replace B0 := Lib.hid (B0.out.alloc (.cells #[.int .u64 ce, .int .u64 de] 49))
  replace R0 := Lib.hid (R0.out.alloc (.cells #[.int .u64 ce, .int .u64 de] 49))
  replace HB := Lib.hid (HB.out.alloc HB.out.size (.cells #[.int .u64 ce, .int .u64 de] 49))
  generalize Y1.alloc (.cells #[.int .u64 ce, .int .u64 de] 49) = Y2 at D0 B0 R0 HB ⊢
  generalize Y1.heap.size = gD at D0 ⊢
  clear e2 e3 k1 k2 hb3
  refine (sub_any de amt _ hwde hamt).mono ?_
  rintro e Y3 ⟨rfl, rfl⟩
  rw [s1, s2]
  clear s1 s2
  have d1 := D0.out.cell 0
  have d2 := D0.out.cell 1
  simp only [List.getElem?_cons_zero, List.getElem?_cons_succ] at d1 d2
  go_wp2_with fail
  refine (add_any ce amt _ hwce hamt).mono ?_
  rintro e Y4 ⟨rfl, rfl⟩
  rw [s3, s4]
  clear d1 d2 s3 s4 D0
  go_upto_region 16 with fail
  go_cut [16] (fun p wc => ∃ gN g a1 c1 cap cur, p = .pointer (some ⟨gN, 0, none⟩) ∧ Hid (SentCut w wc sl el sp es gN g a1 c1 cap cur))
  case first =>
    replace B0 := Lib.hid (Blk.drewN B0.out 1)
    replace R0 := Lib.hid (Blk.drewN R0.out 1)
    replace HB := Lib.hid (below_drewN HB.out 1)
    refine wp_region_held_drew (S := fun w' => Blk w' w.heap.size 31 [.slice sa sl sc, .slice (some ⟨b0, off, none⟩) el ec]) (by kernel_rfl) B0.out (fun hHeld => ?_)
    generalize hY : Y2.drew = X at hHeld ⊢
    rw [show Y2.drewN 1 = X from hY] at B0 R0 HB
    clear hY
    refine wpAnyH_take (i := 0) (v := .pointer (some ⟨w.heap.size, 0, none⟩)) rfl (by kernel_rfl) (by kernel_rfl) (by kernel_rfl) (fun _ _ _ h => h) (Or.inl ⟨by rfl, by intro w' _; go_simp⟩) hHeld ?_
    show wpAnyH _ _ _ _ _ _ _ (Act.put _ (some 73) _) _
    simp only [Act.put, List.setIfInBounds_toArray, List.set_cons_zero, List.set_cons_succ]
    refine wpAnyH_take (i := 1) (v := .slice sa sl sc) rfl (by kernel_rfl) (by kernel_rfl) (by kernel_rfl) (fun _ _ _ h => h) (Or.inl ⟨by rfl, by intro w' h; have k1 := h.cell 0; have k2 := h.cell 1; simp only [List.getElem?_cons_zero, List.getElem?_cons_succ] at k1 k2; go_simp⟩) hHeld ?_
    show wpAnyH _ _ _ _ _ _ _ (Act.put _ (some 74) _) _
    simp only [Act.put, List.setIfInBounds_toArray, List.set_cons_zero, List.set_cons_succ]
    refine wpAnyH_take (i := 3) (v := .pointer (some ⟨w.heap.size, 1, none⟩)) rfl (by kernel_rfl) (by kernel_rfl) (by kernel_rfl) (fun _ _ _ h => h) (Or.inl ⟨by rfl, by intro w' _; go_simp⟩) hHeld ?_
    show wpAnyH _ _ _ _ _ _ _ (Act.put _ (some 76) _) _
    simp only [Act.put, List.setIfInBounds_toArray, List.set_cons_zero, List.set_cons_succ]
    refine wpAnyH_take (i := 4) (v := .slice (some ⟨b0, off, none⟩) el ec) rfl (by kernel_rfl) (by kernel_rfl) (by kernel_rfl) (fun _ _ _ h => h) (Or.inl ⟨by rfl, by intro w' h; have k1 := h.cell 0; have k2 := h.cell 1; simp only [List.getElem?_cons_zero, List.getElem?_cons_succ] at k1 k2; go_simp⟩) hHeld ?_
    show wpAnyH _ _ _ _ _ _ _ (Act.put _ (some 77) _) _
    simp only [Act.put, List.setIfInBounds_toArray, List.set_cons_zero, List.set_cons_succ]
    refine wpAnyH_ready (rs := [2, 7]) (by kernel_rfl) (by simp) ?_
    refine AllReadyH.cons rfl (fun K hK => ?_) (AllReadyH.cons rfl (fun K hK => ?_) AllReadyH.nil)
    · refine step_call rfl 54 #[.tmp 74] #[28] rfl #[.slice sa sl sc] (by simp [Act.eval]) (by go_simp) (HC39.out _ HB.out) ?_
      rintro e X ⟨a1, c1, rfl, h1, hB, h2, h3⟩
      have P1 := Lib.hid h1
      have Z1 := Lib.hid h2
      have PR : Hid (sp = [] ∨ ∃ b off, a1 = some ⟨b, off, none⟩ ∧ b ≠ w.heap.size + 1) := Lib.hid (by
        rcases h1 with h | ⟨b, o, e, hb, _⟩
        · exact .inl h
        · exact .inr ⟨b, o, e, by have h4 := h3 b o none e; have h5 := R0.out.lt; omega⟩)
      replace B0 := Lib.hid (B0.out.keep hB)
      replace R0 := Lib.hid (R0.out.keep hB)
      replace HB := Lib.hid (HB.out.trans (hB.mono HB.out.size))
      clear hB h1 h2 h3
      refine ⟨_, rfl, hK.out _ _ B0.out (fun hHeld => ?_)⟩
      clear hK K
      show wpAnyH _ _ _ _ _ _ _ (Act.put _ (some 75) _) _
      simp only [Act.put, List.setIfInBounds_toArray, List.set_cons_zero, List.set_cons_succ]
      refine wpAnyH_ready (rs := [5, 7]) (by kernel_rfl) (by simp) ?_
      refine AllReadyH.cons rfl (fun K hK => ?_) (AllReadyH.cons rfl (fun K hK => ?_) AllReadyH.nil)
      · refine step_call rfl 55 #[.tmp 77] #[29] rfl #[.slice (some ⟨b0, off, none⟩) el ec] (by simp [Act.eval]) (by go_simp) (HC56.out _ HB.out) ?_
        rintro e X ⟨v5, rfl, hO, hB⟩
        rcases hO.2 with ⟨_, h0⟩ | ⟨g, cap, cur, rfl, hbg, hg, _, _, _, htake⟩
        · exfalso; omega
        have G0 : Hid (Blk X g 52 cur.toList) := Lib.hid hg
        have HT : Hid (cur.toList.take (el * 8) = eflat es) := Lib.hid htake
        have PF : Hid (sp = [] ∨ ∃ b off, a1 = some ⟨b, off, none⟩ ∧ b ≠ g) := Lib.hid (by
          rcases P1.out with h | ⟨b, o, e, hb, _⟩
          · exact .inl h
          · exact .inr ⟨b, o, e, by omega⟩)
        have GG : Hid (w.heap.size + 1 < g) := Lib.hid (by have h := R0.out.lt; omega)
        replace B0 := Lib.hid (B0.out.keep hB)
        replace R0 := Lib.hid (R0.out.keep hB)
        replace HB := Lib.hid (HB.out.trans (hB.mono HB.out.size))
        replace P1 := Lib.hid (P1.out.below hB)
        clear hB hO hbg hg htake
        refine ⟨_, rfl, hK.out _ _ B0.out (fun hHeld => ?_)⟩
        clear hK K
        show wpAnyH _ _ _ _ _ _ _ (Act.put _ (some 78) _) _
        simp only [Act.put, List.setIfInBounds_toArray, List.set_cons_zero, List.set_cons_succ]
        refine wpAnyH_take (i := 6) (v := .agg #[.slice a1 sl c1, .slice (some ⟨g, 0, none⟩) el cap]) rfl (by kernel_rfl) (by kernel_rfl) (by kernel_rfl) (fun _ _ _ h => h) (Or.inl ⟨by rfl, by intro w' _; go_simp⟩) hHeld ?_
        show wpAnyH _ _ _ _ _ _ _ (Act.put _ (some 79) _) _
        simp only [Act.put, List.setIfInBounds_toArray, List.set_cons_zero, List.set_cons_succ]
        refine wpAnyH_ready (rs := [7]) (by kernel_rfl) (by simp) ?_
        refine AllReadyH.cons rfl (fun K hK => ?_) AllReadyH.nil
        refine step_web rfl rfl ?_
        intro X gN hN hgN hB
        have hR1 := R0.out.lt
        have NG : Hid (gN ≠ g) := Lib.hid (by have h := G0.out.lt; omega)
        have N1 : Hid (w.heap.size + 1 < gN) := Lib.hid (by omega)
        clear hR1
        replace B0 := Lib.hid (B0.out.keep hB)
        replace R0 := Lib.hid (R0.out.keep hB)
        replace G0 := Lib.hid (G0.out.keep hB)
        replace HB := Lib.hid (HB.out.trans (hB.mono HB.out.size))
        have PN : Hid (sp = [] ∨ ∃ b off, a1 = some ⟨b, off, none⟩ ∧ b ≠ gN) := Lib.hid (by
          rcases P1.out with h | ⟨b, o, e, hb, _⟩
          · exact .inl h
          · exact .inr ⟨b, o, e, by omega⟩)
        replace P1 := Lib.hid (P1.out.below hB)
        have N0 := Lib.hid hN
        clear hB hN hgN
        refine hK.out _ _ B0.out (fun hHeld => ?_)
        clear hK K
        show wpAnyH _ _ _ _ _ _ _ (Act.put _ (some 16) _) _
        simp only [Act.put, List.setIfInBounds_toArray, List.set_cons_zero, List.set_cons_succ]
        refine wpAnyH_ready (rs := [8]) (by kernel_rfl) (by simp) ?_
        refine AllReadyH.cons rfl (fun K hK => ?_) AllReadyH.nil
        refine step_store58 rfl (.tmp 16) (.tmp 79) rfl gN 31 (.slice none 0 0) (.slice none 0 0) a1 (some ⟨g, 0, none⟩) sl el c1 cap rfl rfl N0.out ?_
        have hB1 := B0.out.lt
        have hN1 := N1.out
        have hnG := NG.out
        have hZ := HB.out.size
        have HBx : Hid (Blk ((X.setCell ⟨gN, 0, none⟩ (.slice a1 sl c1)).setCell ⟨gN, 1, none⟩ (.slice (some ⟨g, 0, none⟩) el cap)) w.heap.size 31 [.slice sa sl sc, .slice (some ⟨b0, off, none⟩) el ec]) := Lib.hid ((B0.out.far (p := ⟨gN, 0, none⟩) (by show w.heap.size ≠ gN; omega) _).far (p := ⟨gN, 1, none⟩) (by show w.heap.size ≠ gN; omega) _)
        have HCUT : Hid (SentCut w ((X.setCell ⟨gN, 0, none⟩ (.slice a1 sl c1)).setCell ⟨gN, 1, none⟩ (.slice (some ⟨g, 0, none⟩) el cap)) sl el sp es gN g a1 c1 cap cur.toList) := Lib.hid ⟨Blk.set_ (Blk.set_ N0.out 0 (.slice a1 sl c1)) 1 (.slice (some ⟨g, 0, none⟩) el cap), (G0.out.far (p := ⟨gN, 0, none⟩) (by show g ≠ gN; omega) _).far (p := ⟨gN, 1, none⟩) (by show g ≠ gN; omega) _, HT.out, (P1.out.setFar PN.out _).setFar PN.out _, PF.out, PR.out, Z1.out, (R0.out.far (p := ⟨gN, 0, none⟩) (by show w.heap.size + 1 ≠ gN; omega) _).far (p := ⟨gN, 1, none⟩) (by show w.heap.size + 1 ≠ gN; omega) _, (HB.out.setCell (show w.heap.size ≤ gN by omega) _).setCell (show w.heap.size ≤ gN by omega) _, GG.out, NG.out, N1.out⟩
        refine hK.out _ _ HBx.out (fun hHeld => ?_)
        clear hK K
        show wpAnyH _ _ _ _ _ _ _ (Act.put _ none _) _
        simp only [Act.put]
        refine wpAnyH_done (by kernel_rfl) ?_ _
        go_wp2_with fail
        go_meet
        exact ⟨gN, g, a1, c1, cap, cur.toList, rfl, HCUT⟩
      · refine step_web rfl rfl ?_
        intro X gN hN hgN hB
        have hR1 := R0.out.lt
        have N1 : Hid (w.heap.size + 1 < gN) := Lib.hid (by omega)
        clear hR1
        replace B0 := Lib.hid (B0.out.keep hB)
        replace R0 := Lib.hid (R0.out.keep hB)
        replace HB := Lib.hid (HB.out.trans (hB.mono HB.out.size))
        have PN : Hid (sp = [] ∨ ∃ b off, a1 = some ⟨b, off, none⟩ ∧ b ≠ gN) := Lib.hid (by
          rcases P1.out with h | ⟨b, o, e, hb, _⟩
          · exact .inl h
          · exact .inr ⟨b, o, e, by omega⟩)
        replace P1 := Lib.hid (P1.out.below hB)
        have N0 := Lib.hid hN
        clear hB hN hgN
        refine hK.out _ _ B0.out (fun hHeld => ?_)
        clear hK K
        show wpAnyH _ _ _ _ _ _ _ (Act.put _ (some 16) _) _
        simp only [Act.put, List.setIfInBounds_toArray, List.set_cons_zero, List.set_cons_succ]
        refine wpAnyH_ready (rs := [5]) (by kernel_rfl) (by simp) ?_
        refine AllReadyH.cons rfl (fun K hK => ?_) AllReadyH.nil
        refine step_call rfl 55 #[.tmp 77] #[29] rfl #[.slice (some ⟨b0, off, none⟩) el ec] (by simp [Act.eval]) (by go_simp) (HC56.out _ HB.out) ?_
        rintro e X ⟨v5, rfl, hO, hB⟩
        rcases hO.2 with ⟨_, h0⟩ | ⟨g, cap, cur, rfl, hbg, hg, _, _, _, htake⟩
        · exfalso; omega
        have G0 : Hid (Blk X g 52 cur.toList) := Lib.hid hg
        have HT : Hid (cur.toList.take (el * 8) = eflat es) := Lib.hid htake
        have PF : Hid (sp = [] ∨ ∃ b off, a1 = some ⟨b, off, none⟩ ∧ b ≠ g) := Lib.hid (by
          rcases P1.out with h | ⟨b, o, e, hb, _⟩
          · exact .inl h
          · exact .inr ⟨b, o, e, by omega⟩)
        have GG : Hid (w.heap.size + 1 < g) := Lib.hid (by have h := R0.out.lt; omega)
        have NG : Hid (gN ≠ g) := Lib.hid (by have h := N0.out.lt; omega)
        replace B0 := Lib.hid (B0.out.keep hB)
        replace R0 := Lib.hid (R0.out.keep hB)
        replace N0 := Lib.hid (N0.out.keep hB)
        replace HB := Lib.hid (HB.out.trans (hB.mono HB.out.size))
        replace P1 := Lib.hid (P1.out.below hB)
        clear hB hO hbg hg htake
        refine ⟨_, rfl, hK.out _ _ B0.out (fun hHeld => ?_)⟩
        clear hK K
        show wpAnyH _ _ _ _ _ _ _ (Act.put _ (some 78) _) _
        simp only [Act.put, List.setIfInBounds_toArray, List.set_cons_zero, List.set_cons_succ]
        refine wpAnyH_take (i := 6) (v := .agg #[.slice a1 sl c1, .slice (some ⟨g, 0, none⟩) el cap]) rfl (by kernel_rfl) (by kernel_rfl) (by kernel_rfl) (fun _ _ _ h => h) (Or.inl ⟨by rfl, by intro w' _; go_simp⟩) hHeld ?_
        show wpAnyH _ _ _ _ _ _ _ (Act.put _ (some 79) _) _
        simp only [Act.put, List.setIfInBounds_toArray, List.set_cons_zero, List.set_cons_succ]
        refine wpAnyH_ready (rs := [8]) (by kernel_rfl) (by simp) ?_
        refine AllReadyH.cons rfl (fun K hK => ?_) AllReadyH.nil
        refine step_store58 rfl (.tmp 16) (.tmp 79) rfl gN 31 (.slice none 0 0) (.slice none 0 0) a1 (some ⟨g, 0, none⟩) sl el c1 cap rfl rfl N0.out ?_
        have hB1 := B0.out.lt
        have hN1 := N1.out
        have hnG := NG.out
        have hZ := HB.out.size
        have HBx : Hid (Blk ((X.setCell ⟨gN, 0, none⟩ (.slice a1 sl c1)).setCell ⟨gN, 1, none⟩ (.slice (some ⟨g, 0, none⟩) el cap)) w.heap.size 31 [.slice sa sl sc, .slice (some ⟨b0, off, none⟩) el ec]) := Lib.hid ((B0.out.far (p := ⟨gN, 0, none⟩) (by show w.heap.size ≠ gN; omega) _).far (p := ⟨gN, 1, none⟩) (by show w.heap.size ≠ gN; omega) _)
        have HCUT : Hid (SentCut w ((X.setCell ⟨gN, 0, none⟩ (.slice a1 sl c1)).setCell ⟨gN, 1, none⟩ (.slice (some ⟨g, 0, none⟩) el cap)) sl el sp es gN g a1 c1 cap cur.toList) := Lib.hid ⟨Blk.set_ (Blk.set_ N0.out 0 (.slice a1 sl c1)) 1 (.slice (some ⟨g, 0, none⟩) el cap), (G0.out.far (p := ⟨gN, 0, none⟩) (by show g ≠ gN; omega) _).far (p := ⟨gN, 1, none⟩) (by show g ≠ gN; omega) _, HT.out, (P1.out.setFar PN.out _).setFar PN.out _, PF.out, PR.out, Z1.out, (R0.out.far (p := ⟨gN, 0, none⟩) (by show w.heap.size + 1 ≠ gN; omega) _).far (p := ⟨gN, 1, none⟩) (by show w.heap.size + 1 ≠ gN; omega) _, (HB.out.setCell (show w.heap.size ≤ gN by omega) _).setCell (show w.heap.size ≤ gN by omega) _, GG.out, NG.out, N1.out⟩
        refine hK.out _ _ HBx.out (fun hHeld => ?_)
        clear hK K
        show wpAnyH _ _ _ _ _ _ _ (Act.put _ none _) _
        simp only [Act.put]
        refine wpAnyH_done (by kernel_rfl) ?_ _
        go_wp2_with fail
        go_meet
        exact ⟨gN, g, a1, c1, cap, cur.toList, rfl, HCUT⟩
    · refine step_web rfl rfl ?_
      intro X gN hN hgN hB
      have hR1 := R0.out.lt
      have N1 : Hid (w.heap.size + 1 < gN) := Lib.hid (by omega)
      clear hR1
      replace B0 := Lib.hid (B0.out.keep hB)
      replace R0 := Lib.hid (R0.out.keep hB)
      replace HB := Lib.hid (HB.out.trans (hB.mono HB.out.size))
      have N0 := Lib.hid hN
      clear hB hN hgN
      refine hK.out _ _ B0.out (fun hHeld => ?_)
      clear hK K
      show wpAnyH _ _ _ _ _ _ _ (Act.put _ (some 16) _) _
      simp only [Act.put, List.setIfInBounds_toArray, List.set_cons_zero, List.set_cons_succ]
      refine wpAnyH_ready (rs := [2]) (by kernel_rfl) (by simp) ?_
      refine AllReadyH.cons rfl (fun K hK => ?_) AllReadyH.nil
      refine step_call rfl 54 #[.tmp 74] #[28] rfl #[.slice sa sl sc] (by simp [Act.eval]) (by go_simp) (HC39.out _ HB.out) ?_
      rintro e X ⟨a1, c1, rfl, h1, hB, h2, h3⟩
      have P1 := Lib.hid h1
      have Z1 := Lib.hid h2
      have PR : Hid (sp = [] ∨ ∃ b off, a1 = some ⟨b, off, none⟩ ∧ b ≠ w.heap.size + 1) := Lib.hid (by
        rcases h1 with h | ⟨b, o, e, hb, _⟩
        · exact .inl h
        · exact .inr ⟨b, o, e, by have h4 := h3 b o none e; have h5 := R0.out.lt; omega⟩)
      have PN : Hid (sp = [] ∨ ∃ b off, a1 = some ⟨b, off, none⟩ ∧ b ≠ gN) := Lib.hid (by
        rcases h1 with h | ⟨b, o, e, hb, _⟩
        · exact .inl h
        · exact .inr ⟨b, o, e, by have h4 := h3 b o none e; have h5 := N0.out.lt; omega⟩)
      replace B0 := Lib.hid (B0.out.keep hB)
      replace R0 := Lib.hid (R0.out.keep hB)
      replace N0 := Lib.hid (N0.out.keep hB)
      replace HB := Lib.hid (HB.out.trans (hB.mono HB.out.size))
      clear hB h1 h2 h3
      refine ⟨_, rfl, hK.out _ _ B0.out (fun hHeld => ?_)⟩
      clear hK K
      show wpAnyH _ _ _ _ _ _ _ (Act.put _ (some 75) _) _
      simp only [Act.put, List.setIfInBounds_toArray, List.set_cons_zero, List.set_cons_succ]
      refine wpAnyH_ready (rs := [5]) (by kernel_rfl) (by simp) ?_
      refine AllReadyH.cons rfl (fun K hK => ?_) AllReadyH.nil
      refine step_call rfl 55 #[.tmp 77] #[29] rfl #[.slice (some ⟨b0, off, none⟩) el ec] (by simp [Act.eval]) (by go_simp) (HC56.out _ HB.out) ?_
      rintro e X ⟨v5, rfl, hO, hB⟩
      rcases hO.2 with ⟨_, h0⟩ | ⟨g, cap, cur, rfl, hbg, hg, _, _, _, htake⟩
      · exfalso; omega
      have G0 : Hid (Blk X g 52 cur.toList) := Lib.hid hg
      have HT : Hid (cur.toList.take (el * 8) = eflat es) := Lib.hid htake
      have PF : Hid (sp = [] ∨ ∃ b off, a1 = some ⟨b, off, none⟩ ∧ b ≠ g) := Lib.hid (by
        rcases P1.out with h | ⟨b, o, e, hb, _⟩
        · exact .inl h
        · exact .inr ⟨b, o, e, by omega⟩)
      have GG : Hid (w.heap.size + 1 < g) := Lib.hid (by have h := R0.out.lt; omega)
      have NG : Hid (gN ≠ g) := Lib.hid (by have h := N0.out.lt; omega)
      replace B0 := Lib.hid (B0.out.keep hB)
      replace R0 := Lib.hid (R0.out.keep hB)
      replace N0 := Lib.hid (N0.out.keep hB)
      replace HB := Lib.hid (HB.out.trans (hB.mono HB.out.size))
      replace P1 := Lib.hid (P1.out.below hB)
      clear hB hO hbg hg htake
      refine ⟨_, rfl, hK.out _ _ B0.out (fun hHeld => ?_)⟩
      clear hK K
      show wpAnyH _ _ _ _ _ _ _ (Act.put _ (some 78) _) _
      simp only [Act.put, List.setIfInBounds_toArray, List.set_cons_zero, List.set_cons_succ]
      refine wpAnyH_take (i := 6) (v := .agg #[.slice a1 sl c1, .slice (some ⟨g, 0, none⟩) el cap]) rfl (by kernel_rfl) (by kernel_rfl) (by kernel_rfl) (fun _ _ _ h => h) (Or.inl ⟨by rfl, by intro w' _; go_simp⟩) hHeld ?_
      show wpAnyH _ _ _ _ _ _ _ (Act.put _ (some 79) _) _
      simp only [Act.put, List.setIfInBounds_toArray, List.set_cons_zero, List.set_cons_succ]
      refine wpAnyH_ready (rs := [8]) (by kernel_rfl) (by simp) ?_
      refine AllReadyH.cons rfl (fun K hK => ?_) AllReadyH.nil
      refine step_store58 rfl (.tmp 16) (.tmp 79) rfl gN 31 (.slice none 0 0) (.slice none 0 0) a1 (some ⟨g, 0, none⟩) sl el c1 cap rfl rfl N0.out ?_
      have hB1 := B0.out.lt
      have hN1 := N1.out
      have hnG := NG.out
      have hZ := HB.out.size
      have HBx : Hid (Blk ((X.setCell ⟨gN, 0, none⟩ (.slice a1 sl c1)).setCell ⟨gN, 1, none⟩ (.slice (some ⟨g, 0, none⟩) el cap)) w.heap.size 31 [.slice sa sl sc, .slice (some ⟨b0, off, none⟩) el ec]) := Lib.hid ((B0.out.far (p := ⟨gN, 0, none⟩) (by show w.heap.size ≠ gN; omega) _).far (p := ⟨gN, 1, none⟩) (by show w.heap.size ≠ gN; omega) _)
      have HCUT : Hid (SentCut w ((X.setCell ⟨gN, 0, none⟩ (.slice a1 sl c1)).setCell ⟨gN, 1, none⟩ (.slice (some ⟨g, 0, none⟩) el cap)) sl el sp es gN g a1 c1 cap cur.toList) := Lib.hid ⟨Blk.set_ (Blk.set_ N0.out 0 (.slice a1 sl c1)) 1 (.slice (some ⟨g, 0, none⟩) el cap), (G0.out.far (p := ⟨gN, 0, none⟩) (by show g ≠ gN; omega) _).far (p := ⟨gN, 1, none⟩) (by show g ≠ gN; omega) _, HT.out, (P1.out.setFar PN.out _).setFar PN.out _, PF.out, PR.out, Z1.out, (R0.out.far (p := ⟨gN, 0, none⟩) (by show w.heap.size + 1 ≠ gN; omega) _).far (p := ⟨gN, 1, none⟩) (by show w.heap.size + 1 ≠ gN; omega) _, (HB.out.setCell (show w.heap.size ≤ gN by omega) _).setCell (show w.heap.size ≤ gN by omega) _, GG.out, NG.out, N1.out⟩
      refine hK.out _ _ HBx.out (fun hHeld => ?_)
      clear hK K
      show wpAnyH _ _ _ _ _ _ _ (Act.put _ none _) _
      simp only [Act.put]
      refine wpAnyH_done (by kernel_rfl) ?_ _
      go_wp2_with fail
      go_meet
      exact ⟨gN, g, a1, c1, cap, cur.toList, rfl, HCUT⟩
  case rest =>
    obtain ⟨gN, g, a1, c1, cap, cur, rfl, HCUT⟩ := hcut
    have N0 := Lib.hid HCUT.out.N
    have G0 := Lib.hid HCUT.out.G
    have hT := Lib.hid HCUT.out.T
    have HG2 := Lib.hid (cur_get hT.out HEL.out hk HZE.out 2 (by omega))
    have HG3 := Lib.hid (cur_get hT.out HEL.out hk HZE.out 3 (by omega))
    have hgn := HCUT.out.gn
    have hg1 := HCUT.out.g1
    go_upto_region 17 with fail
    replace N0 := Lib.hid (Blk.drewN N0.out 1)
    replace G0 := Lib.hid (Blk.drewN G0.out 1)
    refine wp_region_held_drew (S := fun w' => Blk w' gN 31 [.slice a1 sl c1, .slice (some ⟨g, 0, none⟩) el cap]) (by kernel_rfl) N0.out (fun hHeld => ?_)
    have HWX : Hid (Below wc.heap.size wc (wc.drewN 1)) := Lib.hid (below_drewN (Below.refl _ _) 1)
    generalize hY : wc.drew = X at hHeld ⊢
    rw [show wc.drewN 1 = X from hY] at N0 G0 HWX
    clear hY
    refine wpAnyH_take (i := 0) (v := .pointer (some ⟨gN, 1, none⟩)) rfl (by kernel_rfl) (by kernel_rfl) (by kernel_rfl) (fun _ _ _ h => h) (Or.inl ⟨by rfl, by intro w' _; go_simp⟩) hHeld ?_
    show wpAnyH _ _ _ _ _ _ _ (Act.put _ (some 80) _) _
    simp only [Act.put, List.setIfInBounds_toArray, List.set_cons_zero, List.set_cons_succ]
    refine wpAnyH_take (i := 1) (v := .slice (some ⟨g, 0, none⟩) el cap) rfl (by kernel_rfl) (by kernel_rfl) (by kernel_rfl) (fun _ _ _ h => h) (Or.inl ⟨by rfl, by intro w' h; have k1 := h.cell 0; have k2 := h.cell 1; simp only [List.getElem?_cons_zero, List.getElem?_cons_succ] at k1 k2; go_simp⟩) hHeld ?_
    show wpAnyH _ _ _ _ _ _ _ (Act.put _ (some 81) _) _
    simp only [Act.put, List.setIfInBounds_toArray, List.set_cons_zero, List.set_cons_succ]
    refine wpAnyH_take (i := 2) (v := .int .i64 (k : Int)) rfl (by kernel_rfl) (by kernel_rfl) (by kernel_rfl) (fun _ _ _ h => h) (Or.inl ⟨by rfl, fun w _ => by rfl⟩) hHeld ?_
    show wpAnyH _ _ _ _ _ _ _ (Act.put _ (some 82) _) _
    simp only [Act.put, List.setIfInBounds_toArray, List.set_cons_zero, List.set_cons_succ]
    refine wpAnyH_take (i := 3) (v := .int .i64 1) rfl (by kernel_rfl) (by kernel_rfl) (by kernel_rfl) (fun _ _ _ h => h) (Or.inl ⟨by rfl, fun w _ => by rfl⟩) hHeld ?_
    show wpAnyH _ _ _ _ _ _ _ (Act.put _ (some 83) _) _
    simp only [Act.put, List.setIfInBounds_toArray, List.set_cons_zero, List.set_cons_succ]
    refine wpAnyH_take (i := 4) (v := .pointer (some ⟨gN, 1, none⟩)) rfl (by kernel_rfl) (by kernel_rfl) (by kernel_rfl) (fun _ _ _ h => h) (Or.inl ⟨by rfl, by intro w' _; go_simp⟩) hHeld ?_
    show wpAnyH _ _ _ _ _ _ _ (Act.put _ (some 84) _) _
    simp only [Act.put, List.setIfInBounds_toArray, List.set_cons_zero, List.set_cons_succ]
    refine wpAnyH_take (i := 5) (v := .slice (some ⟨g, 0, none⟩) el cap) rfl (by kernel_rfl) (by kernel_rfl) (by kernel_rfl) (fun _ _ _ h => h) (Or.inl ⟨by rfl, by intro w' h; have k1 := h.cell 0; have k2 := h.cell 1; simp only [List.getElem?_cons_zero, List.getElem?_cons_succ] at k1 k2; go_simp⟩) hHeld ?_
    show wpAnyH _ _ _ _ _ _ _ (Act.put _ (some 85) _) _
    simp only [Act.put, List.setIfInBounds_toArray, List.set_cons_zero, List.set_cons_succ]
    refine wpAnyH_take (i := 6) (v := .int .i64 (k : Int)) rfl (by kernel_rfl) (by kernel_rfl) (by kernel_rfl) (fun _ _ _ h => h) (Or.inl ⟨by rfl, fun w _ => by rfl⟩) hHeld ?_
    show wpAnyH _ _ _ _ _ _ _ (Act.put _ (some 86) _) _
    simp only [Act.put, List.setIfInBounds_toArray, List.set_cons_zero, List.set_cons_succ]
    refine wpAnyH_take (i := 7) (v := .int .i64 1) rfl (by kernel_rfl) (by kernel_rfl) (by kernel_rfl) (fun _ _ _ h => h) (Or.inl ⟨by rfl, fun w _ => by rfl⟩) hHeld ?_
    show wpAnyH _ _ _ _ _ _ _ (Act.put _ (some 87) _) _
    simp only [Act.put, List.setIfInBounds_toArray, List.set_cons_zero, List.set_cons_succ]
    refine wpAnyH_take (i := 8) (v := .int .i64 0) rfl (by kernel_rfl) (by kernel_rfl) (by kernel_rfl) (fun _ _ _ h => h) (Or.inl ⟨by rfl, by intro w' _; go_simp; try rfl⟩) hHeld ?_
    show wpAnyH _ _ _ _ _ _ _ (Act.put _ (some 88) _) _
    simp only [Act.put, List.setIfInBounds_toArray, List.set_cons_zero, List.set_cons_succ]
    refine wpAnyH_take (i := 9) (v := .int .u64 (de - amt)) rfl (by kernel_rfl) (by kernel_rfl) (by kernel_rfl) (fun _ _ _ h => h) (Or.inl ⟨by rfl, fun w _ => by rfl⟩) hHeld ?_
    show wpAnyH _ _ _ _ _ _ _ (Act.put _ (some 89) _) _
    simp only [Act.put, List.setIfInBounds_toArray, List.set_cons_zero, List.set_cons_succ]
    refine wpAnyH_take (i := 10) (v := .int .u64 (ce + amt)) rfl (by kernel_rfl) (by kernel_rfl) (by kernel_rfl) (fun _ _ _ h => h) (Or.inl ⟨by rfl, fun w _ => by rfl⟩) hHeld ?_
    show wpAnyH _ _ _ _ _ _ _ (Act.put _ (some 90) _) _
    simp only [Act.put, List.setIfInBounds_toArray, List.set_cons_zero, List.set_cons_succ]
    refine wpAnyH_take (i := 11) (v := .pointer (some ⟨g, k * 8, none⟩)) rfl (by kernel_rfl) (by kernel_rfl) (by kernel_rfl) (fun _ _ _ h => h) (Or.inl ⟨by rfl, by intro w' _; go_simp⟩) hHeld ?_
    show wpAnyH _ _ _ _ _ _ _ (Act.put _ (some 91) _) _
    simp only [Act.put, List.setIfInBounds_toArray, List.set_cons_zero, List.set_cons_succ]
    refine wpAnyH_take (i := 12) (v := .pointer (some ⟨g, k * 8 + 2, none⟩)) rfl (by kernel_rfl) (by kernel_rfl) (by kernel_rfl) (fun _ _ _ h => h) (Or.inl ⟨by rfl, by intro w' _; go_simp⟩) hHeld ?_
    show wpAnyH _ _ _ _ _ _ _ (Act.put _ (some 92) _) _
    simp only [Act.put, List.setIfInBounds_toArray, List.set_cons_zero, List.set_cons_succ]
    refine wpAnyH_take (i := 13) (v := .pointer (some ⟨g, k * 8 + 3, none⟩)) rfl (by kernel_rfl) (by kernel_rfl) (by kernel_rfl) (fun _ _ _ h => h) (Or.inl ⟨by rfl, by intro w' _; go_simp⟩) hHeld ?_
    show wpAnyH _ _ _ _ _ _ _ (Act.put _ (some 93) _) _
    simp only [Act.put, List.setIfInBounds_toArray, List.set_cons_zero, List.set_cons_succ]
    refine wpAnyH_take (i := 15) (v := .pointer (some ⟨g, k * 8, none⟩)) rfl (by kernel_rfl) (by kernel_rfl) (by kernel_rfl) (fun _ _ _ h => h) (Or.inl ⟨by rfl, by intro w' _; go_simp⟩) hHeld ?_
    show wpAnyH _ _ _ _ _ _ _ (Act.put _ (some 94) _) _
    simp only [Act.put, List.setIfInBounds_toArray, List.set_cons_zero, List.set_cons_succ]
    refine wpAnyH_take (i := 16) (v := .pointer (some ⟨g, k * 8 + 2, none⟩)) rfl (by kernel_rfl) (by kernel_rfl) (by kernel_rfl) (fun _ _ _ h => h) (Or.inl ⟨by rfl, by intro w' _; go_simp⟩) hHeld ?_
    show wpAnyH _ _ _ _ _ _ _ (Act.put _ (some 95) _) _
    simp only [Act.put, List.setIfInBounds_toArray, List.set_cons_zero, List.set_cons_succ]
    refine wpAnyH_ready (rs := [14]) (by kernel_rfl) (by simp) ?_
    refine AllReadyH.cons rfl (fun K hK => ?_) AllReadyH.nil
    refine step_cell66 rfl (.tmp 93) (.tmp 89) rfl g (k * 8 + 3) 52 cur (.int .u64 de) HG3.out (de - amt) rfl rfl G0.out ?_
    have N1 := Lib.hid (N0.out.far (p := ⟨g, k * 8 + 3, none⟩) (by show gN ≠ g; exact hgn) (.int .u64 (de - amt)))
    have G1 := Lib.hid (G0.out.set_ (k * 8 + 3) (.int .u64 (de - amt)))
    refine hK.out _ _ N1.out (fun hHeld => ?_)
    clear hK K
    show wpAnyH _ _ _ _ _ _ _ (Act.put _ none _) _
    simp only [Act.put]
    refine wpAnyH_take (i := 17) (v := .pointer (some ⟨g, k * 8 + 2, none⟩)) rfl (by kernel_rfl) (by kernel_rfl) (by kernel_rfl) (fun _ _ _ h => h) (Or.inl ⟨by rfl, by intro w' _; go_simp⟩) hHeld ?_
    show wpAnyH _ _ _ _ _ _ _ (Act.put _ (some 96) _) _
    simp only [Act.put, List.setIfInBounds_toArray, List.set_cons_zero, List.set_cons_succ]
    refine wpAnyH_ready (rs := [18]) (by kernel_rfl) (by simp) ?_
    refine AllReadyH.cons rfl (fun K hK => ?_) AllReadyH.nil
    refine step_cell66 rfl (.tmp 96) (.tmp 90) rfl g (k * 8 + 2) 52 (cur.set (k * 8 + 3) (.int .u64 (de - amt))) (.int .u64 ce) (by rw [List.getElem?_set, if_neg (by omega)]; exact HG2.out) (ce + amt) rfl rfl G1.out ?_
    have N2 := Lib.hid (N1.out.far (p := ⟨g, k * 8 + 2, none⟩) (by show gN ≠ g; exact hgn) (.int .u64 (ce + amt)))
    have G2 := Lib.hid (G1.out.set_ (k * 8 + 2) (.int .u64 (ce + amt)))
    replace hHeld := trivial
    refine hK.out _ _ N2.out (fun hHeld => ?_)
    clear hK K
    show wpAnyH _ _ _ _ _ _ _ (Act.put _ none _) _
    simp only [Act.put]
    refine wpAnyH_done (by kernel_rfl) ?_ _
    have HB2 : Hid (Below w.heap.size w ((X.setCell ⟨g, k * 8 + 3, none⟩ (.int .u64 (de - amt))).setCell ⟨g, k * 8 + 2, none⟩ (.int .u64 (ce + amt)))) := Lib.hid (((HCUT.out.B.trans (HWX.out.mono HCUT.out.B.size)).setCell (show w.heap.size ≤ g by omega) _).setCell (show w.heap.size ≤ g by omega) _)
    have R2 : Hid (Blk ((X.setCell ⟨g, k * 8 + 3, none⟩ (.int .u64 (de - amt))).setCell ⟨g, k * 8 + 2, none⟩ (.int .u64 (ce + amt))) (w.heap.size + 1) 31 [.slice none 0 0, .slice none 0 0]) := Lib.hid (((HCUT.out.R.keep HWX.out).far (p := ⟨g, k * 8 + 3, none⟩) (by show w.heap.size + 1 ≠ g; omega) _).far (p := ⟨g, k * 8 + 2, none⟩) (by show w.heap.size + 1 ≠ g; omega) _)
    have P2 : Hid (SpotRow ((X.setCell ⟨g, k * 8 + 3, none⟩ (.int .u64 (de - amt))).setCell ⟨g, k * 8 + 2, none⟩ (.int .u64 (ce + amt))) a1 sp) := Lib.hid (((HCUT.out.P.below HWX.out).setFar HCUT.out.far _).setFar HCUT.out.far _)
    have hn1 := HCUT.out.n1
    generalize ((X.setCell ⟨g, k * 8 + 3, none⟩ (.int .u64 (de - amt))).setCell ⟨g, k * 8 + 2, none⟩ (.int .u64 (ce + amt))) = Z at HB2 R2 P2 N2 G2 ⊢
    have k1 := N2.out.cell 0
    have k2 := N2.out.cell 1
    simp only [List.getElem?_cons_zero, List.getElem?_cons_succ] at k1 k2
    have r1 := R2.out.cell 0
    have r2 := R2.out.cell 1
    simp only [List.getElem?_cons_zero, List.getElem?_cons_succ] at r1 r2
    have r3 := R2.out.frozen 0
    have r4 := R2.out.frozen 1
    go_wp2
    exact bodyPost_ret (results58 Try.results27 _ _ (w.heap.size + 1) 31 a1 (some ⟨g, 0, none⟩) sl el c1 cap _ rfl rfl (Blk.set_ (Blk.set_ R2.out 0 (.slice a1 sl c1)) 1 (.slice (some ⟨g, 0, none⟩) el cap))) rfl ⟨_, by rw [HX.out]; rfl, (HB2.out.setCell (show w.heap.size ≤ w.heap.size + 1 by omega) _).setCell (show w.heap.size ≤ w.heap.size + 1 by omega) _, fun _ => ⟨a1, c1, some ⟨g, 0, none⟩, cap, by rw [HSL2.out, List.length_set, HSL.out, HEL.out], ((P2.out.setFar HCUT.out.farR _).setFar HCUT.out.farR _), by rw [HSL2.out]; exact row_set ((G2.out.far (p := ⟨w.heap.size + 1, 0, none⟩) (by show g ≠ w.heap.size + 1; omega) _).far (p := ⟨w.heap.size + 1, 1, none⟩) (by show g ≠ w.heap.size + 1; omega) _) (by rw [List.set_comm _ _ (by omega)]; exact HCS2.out _ hT.out _ _) (by rw [List.length_set]; exact HEL.out), HCUT.out.nil, fun h => by cases h⟩, fun h => absurd HX.out h⟩

theorem sideE_cases (e : Ed) (n : Int) : sideE e n = -1 ∨ sideE e n = 0 ∨ sideE e n = 1 := by
  unfold sideE
  split
  · exact .inr (.inl rfl)
  · split
    · exact .inr (.inr rfl)
    · exact .inl rfl

theorem sent_any (v : Value) (sp : List (Int × Int)) (es : List Ed) (edge node amt : Int) (w : World) (hW : WebAt w v sp es) (hsp : sp.length ≤ 1000) (hes : es.length ≤ 1000) (hok : ∀ e ∈ es, EdOk e) (hamt : Word amt) :
    Calls Try.prog 27 #[v, .int .i64 edge, .int .i64 node, .int .u64 amt] w (SentPost w sp es edge node amt) := by
  obtain ⟨sa, sc, ea, ec, rfl, hS, hE, hsn, hen⟩ := hW
  by_cases hc : checkE sp.length es = 0
  · by_cases h1 : edge < 0
    · exact sent_neg sa _ sc ea _ ec sp es edge node amt w (Lib.hid hS) (Lib.hid hE) (Lib.hid rfl) (Lib.hid rfl) hes hsp hc h1
    · by_cases h2 : (es.length : Int) ≤ edge
      · exact sent_big sa _ sc ea _ ec sp es edge node amt w (Lib.hid hS) (Lib.hid hE) (Lib.hid rfl) (Lib.hid rfl) hes hsp hc h2
      · obtain ⟨k, rfl⟩ := Int.eq_ofNat_of_zero_le (show 0 ≤ edge by omega)
        have hk : k < es.length := by omega
        obtain ⟨e, he⟩ : ∃ e, es.getD k ed0 = e := ⟨_, rfl⟩
        have hm : EdOk e := by
          have h3 : es.getD k ed0 = es[k] := by simp [List.getD, hk]
          rw [← he, h3]
          exact hok _ (List.getElem_mem hk)
        obtain ⟨pe, qe, ce, de, fe, ge, he', ie⟩ := e
        obtain ⟨_, _, hc1, hd1, _⟩ := hm
        rcases sideE_cases ⟨pe, qe, ce, de, fe, ge, he', ie⟩ node with hs | hs | hs
        · exact sent_side sa _ sc ea _ ec sp es k node amt w (Lib.hid hS) (Lib.hid hE) (Lib.hid rfl) (Lib.hid rfl) hes hsp pe qe ce de fe ge he' ie hc hk he hs
        · by_cases h3 : ce < amt
          · exact sent_few0 sa _ sc ea _ ec sp es k node amt w (Lib.hid hS) (Lib.hid hE) (Lib.hid rfl) (Lib.hid rfl) hes hsp pe qe ce de fe ge he' ie hc hk he hs hc1 hd1 hamt h3
          · by_cases h4 : de + amt < 18446744073709551616
            · exact sent_good0 sa _ sc ea _ ec sp es k node amt w (Lib.hid hS) (Lib.hid hE) (Lib.hid rfl) (Lib.hid rfl) hes hsp (Lib.hid hsn) (Lib.hid hen) pe qe ce de fe ge he' ie hc hk he hs hc1 hd1 hamt h3 h4
            · exact sent_much0 sa _ sc ea _ ec sp es k node amt w (Lib.hid hS) (Lib.hid hE) (Lib.hid rfl) (Lib.hid rfl) hes hsp pe qe ce de fe ge he' ie hc hk he hs hc1 hd1 hamt h3 h4
        · by_cases h3 : de < amt
          · exact sent_few1 sa _ sc ea _ ec sp es k node amt w (Lib.hid hS) (Lib.hid hE) (Lib.hid rfl) (Lib.hid rfl) hes hsp pe qe ce de fe ge he' ie hc hk he hs hc1 hd1 hamt h3
          · by_cases h4 : ce + amt < 18446744073709551616
            · exact sent_good1 sa _ sc ea _ ec sp es k node amt w (Lib.hid hS) (Lib.hid hE) (Lib.hid rfl) (Lib.hid rfl) hes hsp (Lib.hid hsn) (Lib.hid hen) pe qe ce de fe ge he' ie hc hk he hs hc1 hd1 hamt h3 h4
            · exact sent_much1 sa _ sc ea _ ec sp es k node amt w (Lib.hid hS) (Lib.hid hE) (Lib.hid rfl) (Lib.hid rfl) hes hsp pe qe ce de fe ge he' ie hc hk he hs hc1 hd1 hamt h3 h4
  · exact sent_check sa _ sc ea _ ec sp es edge node amt w (Lib.hid hS) (Lib.hid hE) (Lib.hid rfl) (Lib.hid rfl) hes hsp hc
end Go.Proofs.Ytnnimjaigciedaa
