/-
  web's Sent, at a channel that is there, where it can't go.
-/
import Derived.Test.YtnnimjaigciedaaWebSa
namespace Go.Proofs.Ytnnimjaigciedaa
open Go.RowKit
set_option linter.unusedVariables false

set_option maxRecDepth 100000 in
set_option maxHeartbeats 4000000 in
theorem sent_side (sa : Option Addr) (sl sc : Nat) (ea : Option Addr) (el ec : Nat) (sp : List (Int × Int)) (es : List Ed) (k : Nat) (node amt : Int) (w : World) (HS : Hid (SpotRow w sa sp)) (HE : Hid (EdgeRow w ea es)) (HSL : Hid (sp.length = sl)) (HEL : Hid (es.length = el)) (hel2 : el ≤ 1000) (hsl2 : sl ≤ 1000) (pe qe ce de fe ge he ie : Int) (hc : checkE sl es = 0) (hk : k < el) (hz : es.getD k ed0 = ⟨pe, qe, ce, de, fe, ge, he, ie⟩) (hsd : sideE ⟨pe, qe, ce, de, fe, ge, he, ie⟩ node = -1) :
    Calls Try.prog 27 #[.agg #[.slice sa sl sc, .slice ea el ec], .int .i64 (k : Int), .int .i64 node, .int .u64 amt] w (SentPost w sp es (k : Int) node amt) := by
  have HX : Hid (sentErr sp.length es (k : Int) node amt = 1) := Lib.hid (by unfold sentErr; rw [HSL.out, if_neg (by rw [hc]; simp), if_neg (by rw [HEL.out]; omega), Int.toNat_natCast, hz, hsd]; rfl)
  have HC0 := Lib.hid hc
  have HCK : Hid (∀ W, Below w.heap.size w W → Calls Try.prog 18 #[.agg #[.slice sa sl sc, .slice ea el ec]] W fun r w' => r = .returned (.int .i64 0) ∧ Below W.heap.size W w') := Lib.hid fun W hW => by
    have h := check_any sa sl sc ea el ec es W (HE.out.below hW) HEL.out (by omega) (by omega)
    rw [HC0.out] at h
    exact h
  rcases HE.out with h0 | ⟨b0, off, hea, hb, hcx⟩
  · exfalso; have h := HEL.out; rw [h0] at h; simp at h; omega
  have HEA := Lib.hid hea
  clear hea
  have hcs := hcx k (by rw [HEL.out]; exact hk)
  rw [hz] at hcs
  have HCS := Lib.hid hcs
  clear hcs
  have HSD : Hid (∀ w, Calls Try.prog 20 #[.agg #[.int .i64 pe, .int .i64 qe, .int .u64 ce, .int .u64 de, .int .u64 fe, .int .u64 ge, .int .u64 he, .int .u64 ie], .int .i64 node] w fun r w' => r = .returned (.int .i64 (-1)) ∧ Below w.heap.size w w') := Lib.hid fun w => by
    have h := eside_any ⟨pe, qe, ce, de, fe, ge, he, ie⟩ node w
    rw [hsd] at h
    exact h
  have hk1 : (0 : Int) ≤ (k : Int) := by omega
  have hk2 : (k : Int) < (el : Int) := by omega
  have hk3 : ¬ ((k : Int) < 0) := by omega
  have hk4 : ¬ ((el : Int) ≤ (k : Int)) := by omega
  clear hcx hz hsd hc
  go_enter Try.func27, Try.ntmps27
  go_wp2_with fail
  have B0 : Hid (Blk ((w.alloc (.cells #[.slice sa sl sc, .slice ea el ec] 31)).alloc (.cells #[.slice none 0 0, .slice none 0 0] 31)) w.heap.size 31 [.slice sa sl sc, .slice ea el ec]) := Lib.hid ((Blk.mk_ rfl).alloc _)
  have R0 : Hid (Blk ((w.alloc (.cells #[.slice sa sl sc, .slice ea el ec] 31)).alloc (.cells #[.slice none 0 0, .slice none 0 0] 31)) (w.heap.size + 1) 31 [.slice none 0 0, .slice none 0 0]) := Lib.hid (Blk.mk_ (by simp))
  have HB : Hid (Below w.heap.size w ((w.alloc (.cells #[.slice sa sl sc, .slice ea el ec] 31)).alloc (.cells #[.slice none 0 0, .slice none 0 0] 31))) := Lib.hid (((Below.refl _ _).alloc (Nat.le_refl _) _).alloc (by simp) _)
  generalize ((w.alloc (.cells #[.slice sa sl sc, .slice ea el ec] 31)).alloc (.cells #[.slice none 0 0, .slice none 0 0] 31)) = W at B0 R0 HB ⊢
  refine (HCK.out W HB.out).mono ?_
  rintro e Y ⟨rfl, hB⟩
  replace B0 := Lib.hid (B0.out.keep hB)
  replace R0 := Lib.hid (R0.out.keep hB)
  replace HB := Lib.hid (HB.out.trans (hB.mono HB.out.size))
  clear hB
  have hea := HEA.out
  subst hea
  have k1 := B0.out.cell 0
  have k2 := B0.out.cell 1
  simp only [List.getElem?_cons_zero, List.getElem?_cons_succ] at k1 k2
  have hb3 : b0 < Y.heap.size := Nat.lt_of_lt_of_le hb HB.out.size
  have hcs := HCS.out
  have e0 : Y.cell? ⟨b0, off + k * 8, none⟩ = some (.int .i64 pe) := (HB.out.cell (p := ⟨b0, off + k * 8, none⟩) hb).trans (hcs 0 _ rfl)
  have e1 : Y.cell? ⟨b0, off + k * 8 + 1, none⟩ = some (.int .i64 qe) := (HB.out.cell (p := ⟨b0, off + k * 8 + 1, none⟩) hb).trans (hcs 1 _ rfl)
  have e2 : Y.cell? ⟨b0, off + k * 8 + 2, none⟩ = some (.int .u64 ce) := (HB.out.cell (p := ⟨b0, off + k * 8 + 2, none⟩) hb).trans (hcs 2 _ rfl)
  have e3 : Y.cell? ⟨b0, off + k * 8 + 3, none⟩ = some (.int .u64 de) := (HB.out.cell (p := ⟨b0, off + k * 8 + 3, none⟩) hb).trans (hcs 3 _ rfl)
  have e4 : Y.cell? ⟨b0, off + k * 8 + 4, none⟩ = some (.int .u64 fe) := (HB.out.cell (p := ⟨b0, off + k * 8 + 4, none⟩) hb).trans (hcs 4 _ rfl)
  have e5 : Y.cell? ⟨b0, off + k * 8 + 5, none⟩ = some (.int .u64 ge) := (HB.out.cell (p := ⟨b0, off + k * 8 + 5, none⟩) hb).trans (hcs 5 _ rfl)
  have e6 : Y.cell? ⟨b0, off + k * 8 + 6, none⟩ = some (.int .u64 he) := (HB.out.cell (p := ⟨b0, off + k * 8 + 6, none⟩) hb).trans (hcs 6 _ rfl)
  have e7 : Y.cell? ⟨b0, off + k * 8 + 7, none⟩ = some (.int .u64 ie) := (HB.out.cell (p := ⟨b0, off + k * 8 + 7, none⟩) hb).trans (hcs 7 _ rfl)
  clear hcs
  go_wp2_with fail
  refine (HSD.out _).mono ?_
  rintro e Y1 ⟨rfl, hB⟩
  clear e0 e1 e2 e3 e4 e5 e6 e7 k1 k2 hb3
  replace B0 := Lib.hid (B0.out.keep hB)
  replace R0 := Lib.hid (R0.out.keep hB)
  replace HB := Lib.hid (HB.out.trans (hB.mono HB.out.size))
  clear hB
  have r1 := R0.out.cell 0
  have r2 := R0.out.cell 1
  simp only [List.getElem?_cons_zero, List.getElem?_cons_succ] at r1 r2
  have r3 := R0.out.frozen 0
  have r4 := R0.out.frozen 1
  go_wp2
  exact bodyPost_ret (results58 Try.results27 _ _ (w.heap.size + 1) 31 none none 0 0 0 0 _ rfl rfl (Blk.set_ (Blk.set_ R0.out 0 (.slice none 0 0)) 1 (.slice none 0 0))) rfl (SentPost.bad HX.out (by first | decide | exact HNZ.out) ((HB.out.setCell (show w.heap.size ≤ w.heap.size + 1 by omega) _).setCell (show w.heap.size ≤ w.heap.size + 1 by omega) _))

set_option maxRecDepth 100000 in
set_option maxHeartbeats 4000000 in
theorem sent_few0 (sa : Option Addr) (sl sc : Nat) (ea : Option Addr) (el ec : Nat) (sp : List (Int × Int)) (es : List Ed) (k : Nat) (node amt : Int) (w : World) (HS : Hid (SpotRow w sa sp)) (HE : Hid (EdgeRow w ea es)) (HSL : Hid (sp.length = sl)) (HEL : Hid (es.length = el)) (hel2 : el ≤ 1000) (hsl2 : sl ≤ 1000) (pe qe ce de fe ge he ie : Int) (hc : checkE sl es = 0) (hk : k < el) (hz : es.getD k ed0 = ⟨pe, qe, ce, de, fe, ge, he, ie⟩) (hsd : sideE ⟨pe, qe, ce, de, fe, ge, he, ie⟩ node = 0) (hwce : Word ce) (hwde : Word de) (hamt : Word amt) (hf : ce < amt) :
    Calls Try.prog 27 #[.agg #[.slice sa sl sc, .slice ea el ec], .int .i64 (k : Int), .int .i64 node, .int .u64 amt] w (SentPost w sp es (k : Int) node amt) := by
  have HX : Hid (sentErr sp.length es (k : Int) node amt = 28) := Lib.hid (by unfold sentErr; rw [HSL.out, if_neg (by rw [hc]; simp), if_neg (by rw [HEL.out]; omega), Int.toNat_natCast, hz, hsd]; rw [if_neg (by omega), if_pos (by simp [canE, subE]; omega)])
  have s1 : subE ce amt = 12 := by unfold subE; rw [if_pos hf]
  have s2 : subV ce amt = 0 := by unfold subV; rw [if_pos hf]
  have HC0 := Lib.hid hc
  have HCK : Hid (∀ W, Below w.heap.size w W → Calls Try.prog 18 #[.agg #[.slice sa sl sc, .slice ea el ec]] W fun r w' => r = .returned (.int .i64 0) ∧ Below W.heap.size W w') := Lib.hid fun W hW => by
    have h := check_any sa sl sc ea el ec es W (HE.out.below hW) HEL.out (by omega) (by omega)
    rw [HC0.out] at h
    exact h
  rcases HE.out with h0 | ⟨b0, off, hea, hb, hcx⟩
  · exfalso; have h := HEL.out; rw [h0] at h; simp at h; omega
  have HEA := Lib.hid hea
  clear hea
  have hcs := hcx k (by rw [HEL.out]; exact hk)
  rw [hz] at hcs
  have HCS := Lib.hid hcs
  clear hcs
  have HSD : Hid (∀ w, Calls Try.prog 20 #[.agg #[.int .i64 pe, .int .i64 qe, .int .u64 ce, .int .u64 de, .int .u64 fe, .int .u64 ge, .int .u64 he, .int .u64 ie], .int .i64 node] w fun r w' => r = .returned (.int .i64 0) ∧ Below w.heap.size w w') := Lib.hid fun w => by
    have h := eside_any ⟨pe, qe, ce, de, fe, ge, he, ie⟩ node w
    rw [hsd] at h
    exact h
  have hk1 : (0 : Int) ≤ (k : Int) := by omega
  have hk2 : (k : Int) < (el : Int) := by omega
  have hk3 : ¬ ((k : Int) < 0) := by omega
  have hk4 : ¬ ((el : Int) ≤ (k : Int)) := by omega
  clear hcx hz hsd hc
  go_enter Try.func27, Try.ntmps27
  go_wp2_with fail
  have B0 : Hid (Blk ((w.alloc (.cells #[.slice sa sl sc, .slice ea el ec] 31)).alloc (.cells #[.slice none 0 0, .slice none 0 0] 31)) w.heap.size 31 [.slice sa sl sc, .slice ea el ec]) := Lib.hid ((Blk.mk_ rfl).alloc _)
  have R0 : Hid (Blk ((w.alloc (.cells #[.slice sa sl sc, .slice ea el ec] 31)).alloc (.cells #[.slice none 0 0, .slice none 0 0] 31)) (w.heap.size + 1) 31 [.slice none 0 0, .slice none 0 0]) := Lib.hid (Blk.mk_ (by simp))
  have HB : Hid (Below w.heap.size w ((w.alloc (.cells #[.slice sa sl sc, .slice ea el ec] 31)).alloc (.cells #[.slice none 0 0, .slice none 0 0] 31))) := Lib.hid (((Below.refl _ _).alloc (Nat.le_refl _) _).alloc (by simp) _)
  generalize ((w.alloc (.cells #[.slice sa sl sc, .slice ea el ec] 31)).alloc (.cells #[.slice none 0 0, .slice none 0 0] 31)) = W at B0 R0 HB ⊢
  refine (HCK.out W HB.out).mono ?_
  rintro e Y ⟨rfl, hB⟩
  replace B0 := Lib.hid (B0.out.keep hB)
  replace R0 := Lib.hid (R0.out.keep hB)
  replace HB := Lib.hid (HB.out.trans (hB.mono HB.out.size))
  clear hB
  have hea := HEA.out
  subst hea
  have k1 := B0.out.cell 0
  have k2 := B0.out.cell 1
  simp only [List.getElem?_cons_zero, List.getElem?_cons_succ] at k1 k2
  have hb3 : b0 < Y.heap.size := Nat.lt_of_lt_of_le hb HB.out.size
  have hcs := HCS.out
  have e0 : Y.cell? ⟨b0, off + k * 8, none⟩ = some (.int .i64 pe) := (HB.out.cell (p := ⟨b0, off + k * 8, none⟩) hb).trans (hcs 0 _ rfl)
  have e1 : Y.cell? ⟨b0, off + k * 8 + 1, none⟩ = some (.int .i64 qe) := (HB.out.cell (p := ⟨b0, off + k * 8 + 1, none⟩) hb).trans (hcs 1 _ rfl)
  have e2 : Y.cell? ⟨b0, off + k * 8 + 2, none⟩ = some (.int .u64 ce) := (HB.out.cell (p := ⟨b0, off + k * 8 + 2, none⟩) hb).trans (hcs 2 _ rfl)
  have e3 : Y.cell? ⟨b0, off + k * 8 + 3, none⟩ = some (.int .u64 de) := (HB.out.cell (p := ⟨b0, off + k * 8 + 3, none⟩) hb).trans (hcs 3 _ rfl)
  have e4 : Y.cell? ⟨b0, off + k * 8 + 4, none⟩ = some (.int .u64 fe) := (HB.out.cell (p := ⟨b0, off + k * 8 + 4, none⟩) hb).trans (hcs 4 _ rfl)
  have e5 : Y.cell? ⟨b0, off + k * 8 + 5, none⟩ = some (.int .u64 ge) := (HB.out.cell (p := ⟨b0, off + k * 8 + 5, none⟩) hb).trans (hcs 5 _ rfl)
  have e6 : Y.cell? ⟨b0, off + k * 8 + 6, none⟩ = some (.int .u64 he) := (HB.out.cell (p := ⟨b0, off + k * 8 + 6, none⟩) hb).trans (hcs 6 _ rfl)
  have e7 : Y.cell? ⟨b0, off + k * 8 + 7, none⟩ = some (.int .u64 ie) := (HB.out.cell (p := ⟨b0, off + k * 8 + 7, none⟩) hb).trans (hcs 7 _ rfl)
  clear hcs
  go_wp2_with fail
  refine (HSD.out _).mono ?_
  rintro e Y1 ⟨rfl, hB⟩
  clear e0 e1 e2 e3 e4 e5 e6 e7 k1 k2 hb3
  replace B0 := Lib.hid (B0.out.keep hB)
  replace R0 := Lib.hid (R0.out.keep hB)
  replace HB := Lib.hid (HB.out.trans (hB.mono HB.out.size))
  clear hB
  have k1 := B0.out.cell 0
  have k2 := B0.out.cell 1
  simp only [List.getElem?_cons_zero, List.getElem?_cons_succ] at k1 k2
  have hb3 : b0 < Y1.heap.size := Nat.lt_of_lt_of_le hb HB.out.size
  have hcs := HCS.out
  have e2 : Y1.cell? ⟨b0, off + k * 8 + 2, none⟩ = some (.int .u64 ce) := (HB.out.cell (p := ⟨b0, off + k * 8 + 2, none⟩) hb).trans (hcs 2 _ rfl)
  have e3 : Y1.cell? ⟨b0, off + k * 8 + 3, none⟩ = some (.int .u64 de) := (HB.out.cell (p := ⟨b0, off + k * 8 + 3, none⟩) hb).trans (hcs 3 _ rfl)
  clear hcs
  go_wp2_with fail
  have D0 : Hid (Blk (Y1.alloc (.cells #[.int .u64 ce, .int .u64 de] 49)) Y1.heap.size 49 [.int .u64 ce, .int .u64 de]) := Lib.hid (Blk.mk_ rfl)
  replace B0 := Lib.hid (B0.out.alloc (.cells #[.int .u64 ce, .int .u64 de] 49))
  replace R0 := Lib.hid (R0.out.alloc (.cells #[.int .u64 ce, .int .u64 de] 49))
  replace HB := Lib.hid (HB.out.alloc HB.out.size (.cells #[.int .u64 ce, .int .u64 de] 49))
  generalize Y1.alloc (.cells #[.int .u64 ce, .int .u64 de] 49) = Y2 at D0 B0 R0 HB ⊢
  generalize Y1.heap.size = gD at D0 ⊢
  clear e2 e3 k1 k2 hb3
  refine (sub_any ce amt _ hwce hamt).mono ?_
  rintro e Y3 ⟨rfl, rfl⟩
  rw [s1, s2]
  have r1 := R0.out.cell 0
  have r2 := R0.out.cell 1
  simp only [List.getElem?_cons_zero, List.getElem?_cons_succ] at r1 r2
  have r3 := R0.out.frozen 0
  have r4 := R0.out.frozen 1
  go_wp2
  exact bodyPost_ret (results58 Try.results27 _ _ (w.heap.size + 1) 31 none none 0 0 0 0 _ rfl rfl (Blk.set_ (Blk.set_ R0.out 0 (.slice none 0 0)) 1 (.slice none 0 0))) rfl (SentPost.bad HX.out (by first | decide | exact HNZ.out) ((HB.out.setCell (show w.heap.size ≤ w.heap.size + 1 by omega) _).setCell (show w.heap.size ≤ w.heap.size + 1 by omega) _))

set_option maxRecDepth 100000 in
set_option maxHeartbeats 4000000 in
theorem sent_much0 (sa : Option Addr) (sl sc : Nat) (ea : Option Addr) (el ec : Nat) (sp : List (Int × Int)) (es : List Ed) (k : Nat) (node amt : Int) (w : World) (HS : Hid (SpotRow w sa sp)) (HE : Hid (EdgeRow w ea es)) (HSL : Hid (sp.length = sl)) (HEL : Hid (es.length = el)) (hel2 : el ≤ 1000) (hsl2 : sl ≤ 1000) (pe qe ce de fe ge he ie : Int) (hc : checkE sl es = 0) (hk : k < el) (hz : es.getD k ed0 = ⟨pe, qe, ce, de, fe, ge, he, ie⟩) (hsd : sideE ⟨pe, qe, ce, de, fe, ge, he, ie⟩ node = 0) (hwce : Word ce) (hwde : Word de) (hamt : Word amt) (hf : ¬ ce < amt) (hm : ¬ de + amt < 18446744073709551616) :
    Calls Try.prog 27 #[.agg #[.slice sa sl sc, .slice ea el ec], .int .i64 (k : Int), .int .i64 node, .int .u64 amt] w (SentPost w sp es (k : Int) node amt) := by
  have HX : Hid (sentErr sp.length es (k : Int) node amt = 11) := Lib.hid (by unfold sentErr; rw [HSL.out, if_neg (by rw [hc]; simp), if_neg (by rw [HEL.out]; omega), Int.toNat_natCast, hz, hsd]; rw [if_neg (by omega), if_neg (by simp [canE, subE]; omega)]; simp [canE, addE]; omega)
  have s1 : subE ce amt = 0 := by unfold subE; rw [if_neg hf]
  have s2 : subV ce amt = ce - amt := by unfold subV; rw [if_neg hf]
  have s3 : addE de amt = 11 := by unfold addE; rw [if_neg hm]
  have s4 : addV de amt = 0 := by unfold addV; rw [if_neg hm]
  have HC0 := Lib.hid hc
  have HCK : Hid (∀ W, Below w.heap.size w W → Calls Try.prog 18 #[.agg #[.slice sa sl sc, .slice ea el ec]] W fun r w' => r = .returned (.int .i64 0) ∧ Below W.heap.size W w') := Lib.hid fun W hW => by
    have h := check_any sa sl sc ea el ec es W (HE.out.below hW) HEL.out (by omega) (by omega)
    rw [HC0.out] at h
    exact h
  rcases HE.out with h0 | ⟨b0, off, hea, hb, hcx⟩
  · exfalso; have h := HEL.out; rw [h0] at h; simp at h; omega
  have HEA := Lib.hid hea
  clear hea
  have hcs := hcx k (by rw [HEL.out]; exact hk)
  rw [hz] at hcs
  have HCS := Lib.hid hcs
  clear hcs
  have HSD : Hid (∀ w, Calls Try.prog 20 #[.agg #[.int .i64 pe, .int .i64 qe, .int .u64 ce, .int .u64 de, .int .u64 fe, .int .u64 ge, .int .u64 he, .int .u64 ie], .int .i64 node] w fun r w' => r = .returned (.int .i64 0) ∧ Below w.heap.size w w') := Lib.hid fun w => by
    have h := eside_any ⟨pe, qe, ce, de, fe, ge, he, ie⟩ node w
    rw [hsd] at h
    exact h
  have hk1 : (0 : Int) ≤ (k : Int) := by omega
  have hk2 : (k : Int) < (el : Int) := by omega
  have hk3 : ¬ ((k : Int) < 0) := by omega
  have hk4 : ¬ ((el : Int) ≤ (k : Int)) := by omega
  clear hcx hz hsd hc
  go_enter Try.func27, Try.ntmps27
  go_wp2_with fail
  have B0 : Hid (Blk ((w.alloc (.cells #[.slice sa sl sc, .slice ea el ec] 31)).alloc (.cells #[.slice none 0 0, .slice none 0 0] 31)) w.heap.size 31 [.slice sa sl sc, .slice ea el ec]) := Lib.hid ((Blk.mk_ rfl).alloc _)
  have R0 : Hid (Blk ((w.alloc (.cells #[.slice sa sl sc, .slice ea el ec] 31)).alloc (.cells #[.slice none 0 0, .slice none 0 0] 31)) (w.heap.size + 1) 31 [.slice none 0 0, .slice none 0 0]) := Lib.hid (Blk.mk_ (by simp))
  have HB : Hid (Below w.heap.size w ((w.alloc (.cells #[.slice sa sl sc, .slice ea el ec] 31)).alloc (.cells #[.slice none 0 0, .slice none 0 0] 31))) := Lib.hid (((Below.refl _ _).alloc (Nat.le_refl _) _).alloc (by simp) _)
  generalize ((w.alloc (.cells #[.slice sa sl sc, .slice ea el ec] 31)).alloc (.cells #[.slice none 0 0, .slice none 0 0] 31)) = W at B0 R0 HB ⊢
  refine (HCK.out W HB.out).mono ?_
  rintro e Y ⟨rfl, hB⟩
  replace B0 := Lib.hid (B0.out.keep hB)
  replace R0 := Lib.hid (R0.out.keep hB)
  replace HB := Lib.hid (HB.out.trans (hB.mono HB.out.size))
  clear hB
  have hea := HEA.out
  subst hea
  have k1 := B0.out.cell 0
  have k2 := B0.out.cell 1
  simp only [List.getElem?_cons_zero, List.getElem?_cons_succ] at k1 k2
  have hb3 : b0 < Y.heap.size := Nat.lt_of_lt_of_le hb HB.out.size
  have hcs := HCS.out
  have e0 : Y.cell? ⟨b0, off + k * 8, none⟩ = some (.int .i64 pe) := (HB.out.cell (p := ⟨b0, off + k * 8, none⟩) hb).trans (hcs 0 _ rfl)
  have e1 : Y.cell? ⟨b0, off + k * 8 + 1, none⟩ = some (.int .i64 qe) := (HB.out.cell (p := ⟨b0, off + k * 8 + 1, none⟩) hb).trans (hcs 1 _ rfl)
  have e2 : Y.cell? ⟨b0, off + k * 8 + 2, none⟩ = some (.int .u64 ce) := (HB.out.cell (p := ⟨b0, off + k * 8 + 2, none⟩) hb).trans (hcs 2 _ rfl)
  have e3 : Y.cell? ⟨b0, off + k * 8 + 3, none⟩ = some (.int .u64 de) := (HB.out.cell (p := ⟨b0, off + k * 8 + 3, none⟩) hb).trans (hcs 3 _ rfl)
  have e4 : Y.cell? ⟨b0, off + k * 8 + 4, none⟩ = some (.int .u64 fe) := (HB.out.cell (p := ⟨b0, off + k * 8 + 4, none⟩) hb).trans (hcs 4 _ rfl)
  have e5 : Y.cell? ⟨b0, off + k * 8 + 5, none⟩ = some (.int .u64 ge) := (HB.out.cell (p := ⟨b0, off + k * 8 + 5, none⟩) hb).trans (hcs 5 _ rfl)
  have e6 : Y.cell? ⟨b0, off + k * 8 + 6, none⟩ = some (.int .u64 he) := (HB.out.cell (p := ⟨b0, off + k * 8 + 6, none⟩) hb).trans (hcs 6 _ rfl)
  have e7 : Y.cell? ⟨b0, off + k * 8 + 7, none⟩ = some (.int .u64 ie) := (HB.out.cell (p := ⟨b0, off + k * 8 + 7, none⟩) hb).trans (hcs 7 _ rfl)
  clear hcs
  go_wp2_with fail
  refine (HSD.out _).mono ?_
  rintro e Y1 ⟨rfl, hB⟩
  clear e0 e1 e2 e3 e4 e5 e6 e7 k1 k2 hb3
  replace B0 := Lib.hid (B0.out.keep hB)
  replace R0 := Lib.hid (R0.out.keep hB)
  replace HB := Lib.hid (HB.out.trans (hB.mono HB.out.size))
  clear hB
  have k1 := B0.out.cell 0
  have k2 := B0.out.cell 1
  simp only [List.getElem?_cons_zero, List.getElem?_cons_succ] at k1 k2
  have hb3 : b0 < Y1.heap.size := Nat.lt_of_lt_of_le hb HB.out.size
  have hcs := HCS.out
  have e2 : Y1.cell? ⟨b0, off + k * 8 + 2, none⟩ = some (.int .u64 ce) := (HB.out.cell (p := ⟨b0, off + k * 8 + 2, none⟩) hb).trans (hcs 2 _ rfl)
  have e3 : Y1.cell? ⟨b0, off + k * 8 + 3, none⟩ = some (.int .u64 de) := (HB.out.cell (p := ⟨b0, off + k * 8 + 3, none⟩) hb).trans (hcs 3 _ rfl)
  clear hcs
  go_wp2_with fail
  have D0 : Hid (Blk (Y1.alloc (.cells #[.int .u64 ce, .int .u64 de] 49)) Y1.heap.size 49 [.int .u64 ce, .int .u64 de]) := Lib.hid (Blk.mk_ rfl)
  replace B0 := Lib.hid (B0.out.alloc (.cells #[.int .u64 ce, .int .u64 de] 49))
  replace R0 := Lib.hid (R0.out.alloc (.cells #[.int .u64 ce, .int .u64 de] 49))
  replace HB := Lib.hid (HB.out.alloc HB.out.size (.cells #[.int .u64 ce, .int .u64 de] 49))
  generalize Y1.alloc (.cells #[.int .u64 ce, .int .u64 de] 49) = Y2 at D0 B0 R0 HB ⊢
  generalize Y1.heap.size = gD at D0 ⊢
  clear e2 e3 k1 k2 hb3
  refine (sub_any ce amt _ hwce hamt).mono ?_
  rintro e Y3 ⟨rfl, rfl⟩
  rw [s1, s2]
  clear s1 s2
  have d1 := D0.out.cell 0
  have d2 := D0.out.cell 1
  simp only [List.getElem?_cons_zero, List.getElem?_cons_succ] at d1 d2
  go_wp2_with fail
  refine (add_any de amt _ hwde hamt).mono ?_
  rintro e Y4 ⟨rfl, rfl⟩
  rw [s3, s4]
  clear d1 d2 s3 s4
  have r1 := R0.out.cell 0
  have r2 := R0.out.cell 1
  simp only [List.getElem?_cons_zero, List.getElem?_cons_succ] at r1 r2
  have r3 := R0.out.frozen 0
  have r4 := R0.out.frozen 1
  go_wp2
  exact bodyPost_ret (results58 Try.results27 _ _ (w.heap.size + 1) 31 none none 0 0 0 0 _ rfl rfl (Blk.set_ (Blk.set_ R0.out 0 (.slice none 0 0)) 1 (.slice none 0 0))) rfl (SentPost.bad HX.out (by first | decide | exact HNZ.out) ((HB.out.setCell (show w.heap.size ≤ w.heap.size + 1 by omega) _).setCell (show w.heap.size ≤ w.heap.size + 1 by omega) _))

set_option maxRecDepth 100000 in
set_option maxHeartbeats 4000000 in
theorem sent_few1 (sa : Option Addr) (sl sc : Nat) (ea : Option Addr) (el ec : Nat) (sp : List (Int × Int)) (es : List Ed) (k : Nat) (node amt : Int) (w : World) (HS : Hid (SpotRow w sa sp)) (HE : Hid (EdgeRow w ea es)) (HSL : Hid (sp.length = sl)) (HEL : Hid (es.length = el)) (hel2 : el ≤ 1000) (hsl2 : sl ≤ 1000) (pe qe ce de fe ge he ie : Int) (hc : checkE sl es = 0) (hk : k < el) (hz : es.getD k ed0 = ⟨pe, qe, ce, de, fe, ge, he, ie⟩) (hsd : sideE ⟨pe, qe, ce, de, fe, ge, he, ie⟩ node = 1) (hwce : Word ce) (hwde : Word de) (hamt : Word amt) (hf : de < amt) :
    Calls Try.prog 27 #[.agg #[.slice sa sl sc, .slice ea el ec], .int .i64 (k : Int), .int .i64 node, .int .u64 amt] w (SentPost w sp es (k : Int) node amt) := by
  have HX : Hid (sentErr sp.length es (k : Int) node amt = 28) := Lib.hid (by unfold sentErr; rw [HSL.out, if_neg (by rw [hc]; simp), if_neg (by rw [HEL.out]; omega), Int.toNat_natCast, hz, hsd]; rw [if_neg (by omega), if_pos (by simp [canE, subE]; omega)])
  have s1 : subE de amt = 12 := by unfold subE; rw [if_pos hf]
  have s2 : subV de amt = 0 := by unfold subV; rw [if_pos hf]
  have HC0 := Lib.hid hc
  have HCK : Hid (∀ W, Below w.heap.size w W → Calls Try.prog 18 #[.agg #[.slice sa sl sc, .slice ea el ec]] W fun r w' => r = .returned (.int .i64 0) ∧ Below W.heap.size W w') := Lib.hid fun W hW => by
    have h := check_any sa sl sc ea el ec es W (HE.out.below hW) HEL.out (by omega) (by omega)
    rw [HC0.out] at h
    exact h
  rcases HE.out with h0 | ⟨b0, off, hea, hb, hcx⟩
  · exfalso; have h := HEL.out; rw [h0] at h; simp at h; omega
  have HEA := Lib.hid hea
  clear hea
  have hcs := hcx k (by rw [HEL.out]; exact hk)
  rw [hz] at hcs
  have HCS := Lib.hid hcs
  clear hcs
  have HSD : Hid (∀ w, Calls Try.prog 20 #[.agg #[.int .i64 pe, .int .i64 qe, .int .u64 ce, .int .u64 de, .int .u64 fe, .int .u64 ge, .int .u64 he, .int .u64 ie], .int .i64 node] w fun r w' => r = .returned (.int .i64 1) ∧ Below w.heap.size w w') := Lib.hid fun w => by
    have h := eside_any ⟨pe, qe, ce, de, fe, ge, he, ie⟩ node w
    rw [hsd] at h
    exact h
  have hk1 : (0 : Int) ≤ (k : Int) := by omega
  have hk2 : (k : Int) < (el : Int) := by omega
  have hk3 : ¬ ((k : Int) < 0) := by omega
  have hk4 : ¬ ((el : Int) ≤ (k : Int)) := by omega
  clear hcx hz hsd hc
  go_enter Try.func27, Try.ntmps27
  go_wp2_with fail
  have B0 : Hid (Blk ((w.alloc (.cells #[.slice sa sl sc, .slice ea el ec] 31)).alloc (.cells #[.slice none 0 0, .slice none 0 0] 31)) w.heap.size 31 [.slice sa sl sc, .slice ea el ec]) := Lib.hid ((Blk.mk_ rfl).alloc _)
  have R0 : Hid (Blk ((w.alloc (.cells #[.slice sa sl sc, .slice ea el ec] 31)).alloc (.cells #[.slice none 0 0, .slice none 0 0] 31)) (w.heap.size + 1) 31 [.slice none 0 0, .slice none 0 0]) := Lib.hid (Blk.mk_ (by simp))
  have HB : Hid (Below w.heap.size w ((w.alloc (.cells #[.slice sa sl sc, .slice ea el ec] 31)).alloc (.cells #[.slice none 0 0, .slice none 0 0] 31))) := Lib.hid (((Below.refl _ _).alloc (Nat.le_refl _) _).alloc (by simp) _)
  generalize ((w.alloc (.cells #[.slice sa sl sc, .slice ea el ec] 31)).alloc (.cells #[.slice none 0 0, .slice none 0 0] 31)) = W at B0 R0 HB ⊢
  refine (HCK.out W HB.out).mono ?_
  rintro e Y ⟨rfl, hB⟩
  replace B0 := Lib.hid (B0.out.keep hB)
  replace R0 := Lib.hid (R0.out.keep hB)
  replace HB := Lib.hid (HB.out.trans (hB.mono HB.out.size))
  clear hB
  have hea := HEA.out
  subst hea
  have k1 := B0.out.cell 0
  have k2 := B0.out.cell 1
  simp only [List.getElem?_cons_zero, List.getElem?_cons_succ] at k1 k2
  have hb3 : b0 < Y.heap.size := Nat.lt_of_lt_of_le hb HB.out.size
  have hcs := HCS.out
  have e0 : Y.cell? ⟨b0, off + k * 8, none⟩ = some (.int .i64 pe) := (HB.out.cell (p := ⟨b0, off + k * 8, none⟩) hb).trans (hcs 0 _ rfl)
  have e1 : Y.cell? ⟨b0, off + k * 8 + 1, none⟩ = some (.int .i64 qe) := (HB.out.cell (p := ⟨b0, off + k * 8 + 1, none⟩) hb).trans (hcs 1 _ rfl)
  have e2 : Y.cell? ⟨b0, off + k * 8 + 2, none⟩ = some (.int .u64 ce) := (HB.out.cell (p := ⟨b0, off + k * 8 + 2, none⟩) hb).trans (hcs 2 _ rfl)
  have e3 : Y.cell? ⟨b0, off + k * 8 + 3, none⟩ = some (.int .u64 de) := (HB.out.cell (p := ⟨b0, off + k * 8 + 3, none⟩) hb).trans (hcs 3 _ rfl)
  have e4 : Y.cell? ⟨b0, off + k * 8 + 4, none⟩ = some (.int .u64 fe) := (HB.out.cell (p := ⟨b0, off + k * 8 + 4, none⟩) hb).trans (hcs 4 _ rfl)
  have e5 : Y.cell? ⟨b0, off + k * 8 + 5, none⟩ = some (.int .u64 ge) := (HB.out.cell (p := ⟨b0, off + k * 8 + 5, none⟩) hb).trans (hcs 5 _ rfl)
  have e6 : Y.cell? ⟨b0, off + k * 8 + 6, none⟩ = some (.int .u64 he) := (HB.out.cell (p := ⟨b0, off + k * 8 + 6, none⟩) hb).trans (hcs 6 _ rfl)
  have e7 : Y.cell? ⟨b0, off + k * 8 + 7, none⟩ = some (.int .u64 ie) := (HB.out.cell (p := ⟨b0, off + k * 8 + 7, none⟩) hb).trans (hcs 7 _ rfl)
  clear hcs
  go_wp2_with fail
  refine (HSD.out _).mono ?_
  rintro e Y1 ⟨rfl, hB⟩
  clear e0 e1 e2 e3 e4 e5 e6 e7 k1 k2 hb3
  replace B0 := Lib.hid (B0.out.keep hB)
  replace R0 := Lib.hid (R0.out.keep hB)
  replace HB := Lib.hid (HB.out.trans (hB.mono HB.out.size))
  clear hB
  have k1 := B0.out.cell 0
  have k2 := B0.out.cell 1
  simp only [List.getElem?_cons_zero, List.getElem?_cons_succ] at k1 k2
  have hb3 : b0 < Y1.heap.size := Nat.lt_of_lt_of_le hb HB.out.size
  have hcs := HCS.out
  have e2 : Y1.cell? ⟨b0, off + k * 8 + 2, none⟩ = some (.int .u64 ce) := (HB.out.cell (p := ⟨b0, off + k * 8 + 2, none⟩) hb).trans (hcs 2 _ rfl)
  have e3 : Y1.cell? ⟨b0, off + k * 8 + 3, none⟩ = some (.int .u64 de) := (HB.out.cell (p := ⟨b0, off + k * 8 + 3, none⟩) hb).trans (hcs 3 _ rfl)
  clear hcs
  go_wp2_with fail
  have D0 : Hid (Blk (Y1.alloc (.cells #[.int .u64 ce, .int .u64 de] 49)) Y1.heap.size 49 [.int .u64 ce, .int .u64 de]) := Lib.hid (Blk.mk_ rfl)
  replace B0 := Lib.hid (B0.out.alloc (.cells #[.int .u64 ce, .int .u64 de] 49))
  replace R0 := Lib.hid (R0.out.alloc (.cells #[.int .u64 ce, .int .u64 de] 49))
  replace HB := Lib.hid (HB.out.alloc HB.out.size (.cells #[.int .u64 ce, .int .u64 de] 49))
  generalize Y1.alloc (.cells #[.int .u64 ce, .int .u64 de] 49) = Y2 at D0 B0 R0 HB ⊢
  generalize Y1.heap.size = gD at D0 ⊢
  clear e2 e3 k1 k2 hb3
  refine (sub_any de amt _ hwde hamt).mono ?_
  rintro e Y3 ⟨rfl, rfl⟩
  rw [s1, s2]
  have r1 := R0.out.cell 0
  have r2 := R0.out.cell 1
  simp only [List.getElem?_cons_zero, List.getElem?_cons_succ] at r1 r2
  have r3 := R0.out.frozen 0
  have r4 := R0.out.frozen 1
  go_wp2
  exact bodyPost_ret (results58 Try.results27 _ _ (w.heap.size + 1) 31 none none 0 0 0 0 _ rfl rfl (Blk.set_ (Blk.set_ R0.out 0 (.slice none 0 0)) 1 (.slice none 0 0))) rfl (SentPost.bad HX.out (by first | decide | exact HNZ.out) ((HB.out.setCell (show w.heap.size ≤ w.heap.size + 1 by omega) _).setCell (show w.heap.size ≤ w.heap.size + 1 by omega) _))

set_option maxRecDepth 100000 in
set_option maxHeartbeats 4000000 in
theorem sent_much1 (sa : Option Addr) (sl sc : Nat) (ea : Option Addr) (el ec : Nat) (sp : List (Int × Int)) (es : List Ed) (k : Nat) (node amt : Int) (w : World) (HS : Hid (SpotRow w sa sp)) (HE : Hid (EdgeRow w ea es)) (HSL : Hid (sp.length = sl)) (HEL : Hid (es.length = el)) (hel2 : el ≤ 1000) (hsl2 : sl ≤ 1000) (pe qe ce de fe ge he ie : Int) (hc : checkE sl es = 0) (hk : k < el) (hz : es.getD k ed0 = ⟨pe, qe, ce, de, fe, ge, he, ie⟩) (hsd : sideE ⟨pe, qe, ce, de, fe, ge, he, ie⟩ node = 1) (hwce : Word ce) (hwde : Word de) (hamt : Word amt) (hf : ¬ de < amt) (hm : ¬ ce + amt < 18446744073709551616) :
    Calls Try.prog 27 #[.agg #[.slice sa sl sc, .slice ea el ec], .int .i64 (k : Int), .int .i64 node, .int .u64 amt] w (SentPost w sp es (k : Int) node amt) := by
  have HX : Hid (sentErr sp.length es (k : Int) node amt = 11) := Lib.hid (by unfold sentErr; rw [HSL.out, if_neg (by rw [hc]; simp), if_neg (by rw [HEL.out]; omega), Int.toNat_natCast, hz, hsd]; rw [if_neg (by omega), if_neg (by simp [canE, subE]; omega)]; simp [canE, addE]; omega)
  have s1 : subE de amt = 0 := by unfold subE; rw [if_neg hf]
  have s2 : subV de amt = de - amt := by unfold subV; rw [if_neg hf]
  have s3 : addE ce amt = 11 := by unfold addE; rw [if_neg hm]
  have s4 : addV ce amt = 0 := by unfold addV; rw [if_neg hm]
  have HC0 := Lib.hid hc
  have HCK : Hid (∀ W, Below w.heap.size w W → Calls Try.prog 18 #[.agg #[.slice sa sl sc, .slice ea el ec]] W fun r w' => r = .returned (.int .i64 0) ∧ Below W.heap.size W w') := Lib.hid fun W hW => by
    have h := check_any sa sl sc ea el ec es W (HE.out.below hW) HEL.out (by omega) (by omega)
    rw [HC0.out] at h
    exact h
  rcases HE.out with h0 | ⟨b0, off, hea, hb, hcx⟩
  · exfalso; have h := HEL.out; rw [h0] at h; simp at h; omega
  have HEA := Lib.hid hea
  clear hea
  have hcs := hcx k (by rw [HEL.out]; exact hk)
  rw [hz] at hcs
  have HCS := Lib.hid hcs
  clear hcs
  have HSD : Hid (∀ w, Calls Try.prog 20 #[.agg #[.int .i64 pe, .int .i64 qe, .int .u64 ce, .int .u64 de, .int .u64 fe, .int .u64 ge, .int .u64 he, .int .u64 ie], .int .i64 node] w fun r w' => r = .returned (.int .i64 1) ∧ Below w.heap.size w w') := Lib.hid fun w => by
    have h := eside_any ⟨pe, qe, ce, de, fe, ge, he, ie⟩ node w
    rw [hsd] at h
    exact h
  have hk1 : (0 : Int) ≤ (k : Int) := by omega
  have hk2 : (k : Int) < (el : Int) := by omega
  have hk3 : ¬ ((k : Int) < 0) := by omega
  have hk4 : ¬ ((el : Int) ≤ (k : Int)) := by omega
  clear hcx hz hsd hc
  go_enter Try.func27, Try.ntmps27
  go_wp2_with fail
  have B0 : Hid (Blk ((w.alloc (.cells #[.slice sa sl sc, .slice ea el ec] 31)).alloc (.cells #[.slice none 0 0, .slice none 0 0] 31)) w.heap.size 31 [.slice sa sl sc, .slice ea el ec]) := Lib.hid ((Blk.mk_ rfl).alloc _)
  have R0 : Hid (Blk ((w.alloc (.cells #[.slice sa sl sc, .slice ea el ec] 31)).alloc (.cells #[.slice none 0 0, .slice none 0 0] 31)) (w.heap.size + 1) 31 [.slice none 0 0, .slice none 0 0]) := Lib.hid (Blk.mk_ (by simp))
  have HB : Hid (Below w.heap.size w ((w.alloc (.cells #[.slice sa sl sc, .slice ea el ec] 31)).alloc (.cells #[.slice none 0 0, .slice none 0 0] 31))) := Lib.hid (((Below.refl _ _).alloc (Nat.le_refl _) _).alloc (by simp) _)
  generalize ((w.alloc (.cells #[.slice sa sl sc, .slice ea el ec] 31)).alloc (.cells #[.slice none 0 0, .slice none 0 0] 31)) = W at B0 R0 HB ⊢
  refine (HCK.out W HB.out).mono ?_
  rintro e Y ⟨rfl, hB⟩
  replace B0 := Lib.hid (B0.out.keep hB)
  replace R0 := Lib.hid (R0.out.keep hB)
  replace HB := Lib.hid (HB.out.trans (hB.mono HB.out.size))
  clear hB
  have hea := HEA.out
  subst hea
  have k1 := B0.out.cell 0
  have k2 := B0.out.cell 1
  simp only [List.getElem?_cons_zero, List.getElem?_cons_succ] at k1 k2
  have hb3 : b0 < Y.heap.size := Nat.lt_of_lt_of_le hb HB.out.size
  have hcs := HCS.out
  have e0 : Y.cell? ⟨b0, off + k * 8, none⟩ = some (.int .i64 pe) := (HB.out.cell (p := ⟨b0, off + k * 8, none⟩) hb).trans (hcs 0 _ rfl)
  have e1 : Y.cell? ⟨b0, off + k * 8 + 1, none⟩ = some (.int .i64 qe) := (HB.out.cell (p := ⟨b0, off + k * 8 + 1, none⟩) hb).trans (hcs 1 _ rfl)
  have e2 : Y.cell? ⟨b0, off + k * 8 + 2, none⟩ = some (.int .u64 ce) := (HB.out.cell (p := ⟨b0, off + k * 8 + 2, none⟩) hb).trans (hcs 2 _ rfl)
  have e3 : Y.cell? ⟨b0, off + k * 8 + 3, none⟩ = some (.int .u64 de) := (HB.out.cell (p := ⟨b0, off + k * 8 + 3, none⟩) hb).trans (hcs 3 _ rfl)
  have e4 : Y.cell? ⟨b0, off + k * 8 + 4, none⟩ = some (.int .u64 fe) := (HB.out.cell (p := ⟨b0, off + k * 8 + 4, none⟩) hb).trans (hcs 4 _ rfl)
  have e5 : Y.cell? ⟨b0, off + k * 8 + 5, none⟩ = some (.int .u64 ge) := (HB.out.cell (p := ⟨b0, off + k * 8 + 5, none⟩) hb).trans (hcs 5 _ rfl)
  have e6 : Y.cell? ⟨b0, off + k * 8 + 6, none⟩ = some (.int .u64 he) := (HB.out.cell (p := ⟨b0, off + k * 8 + 6, none⟩) hb).trans (hcs 6 _ rfl)
  have e7 : Y.cell? ⟨b0, off + k * 8 + 7, none⟩ = some (.int .u64 ie) := (HB.out.cell (p := ⟨b0, off + k * 8 + 7, none⟩) hb).trans (hcs 7 _ rfl)
  clear hcs
  go_wp2_with fail
  refine (HSD.out _).mono ?_
  rintro e Y1 ⟨rfl, hB⟩
  clear e0 e1 e2 e3 e4 e5 e6 e7 k1 k2 hb3
  replace B0 := Lib.hid (B0.out.keep hB)
  replace R0 := Lib.hid (R0.out.keep hB)
  replace HB := Lib.hid (HB.out.trans (hB.mono HB.out.size))
  clear hB
  have k1 := B0.out.cell 0
  have k2 := B0.out.cell 1
  simp only [List.getElem?_cons_zero, List.getElem?_cons_succ] at k1 k2
  have hb3 : b0 < Y1.heap.size := Nat.lt_of_lt_of_le hb HB.out.size
  have hcs := HCS.out
  have e2 : Y1.cell? ⟨b0, off + k * 8 + 2, none⟩ = some (.int .u64 ce) := (HB.out.cell (p := ⟨b0, off + k * 8 + 2, none⟩) hb).trans (hcs 2 _ rfl)
  have e3 : Y1.cell? ⟨b0, off + k * 8 + 3, none⟩ = some (.int .u64 de) := (HB.out.cell (p := ⟨b0, off + k * 8 + 3, none⟩) hb).trans (hcs 3 _ rfl)
  clear hcs
  go_wp2_with fail
  have D0 : Hid (Blk (Y1.alloc (.cells #[.int .u64 ce, .int .u64 de] 49)) Y1.heap.size 49 [.int .u64 ce, .int .u64 de]) := Lib.hid (Blk.mk_ rfl)
  replace B0 := Lib.hid (B0.out.alloc (.cells #[.int .u64 ce, .int .u64 de] 49))
  replace R0 := Lib.hid (R0.out.alloc (.cells #[.int .u64 ce, .int .u64 de] 49))
  replace HB := Lib.hid (HB.out.alloc HB.out.size (.cells #[.int .u64 ce, .int .u64 de] 49))
  generalize Y1.alloc (.cells #[.int .u64 ce, .int .u64 de] 49) = Y2 at D0 B0 R0 HB ⊢
  generalize Y1.heap.size = gD at D0 ⊢
  clear e2 e3 k1 k2 hb3
  refine (sub_any de amt _ hwde hamt).mono ?_
  rintro e Y3 ⟨rfl, rfl⟩
  rw [s1, s2]
  clear s1 s2
  have d1 := D0.out.cell 0
  have d2 := D0.out.cell 1
  simp only [List.getElem?_cons_zero, List.getElem?_cons_succ] at d1 d2
  go_wp2_with fail
  refine (add_any ce amt _ hwce hamt).mono ?_
  rintro e Y4 ⟨rfl, rfl⟩
  rw [s3, s4]
  clear d1 d2 s3 s4
  have r1 := R0.out.cell 0
  have r2 := R0.out.cell 1
  simp only [List.getElem?_cons_zero, List.getElem?_cons_succ] at r1 r2
  have r3 := R0.out.frozen 0
  have r4 := R0.out.frozen 1
  go_wp2
  exact bodyPost_ret (results58 Try.results27 _ _ (w.heap.size + 1) 31 none none 0 0 0 0 _ rfl rfl (Blk.set_ (Blk.set_ R0.out 0 (.slice none 0 0)) 1 (.slice none 0 0))) rfl (SentPost.bad HX.out (by first | decide | exact HNZ.out) ((HB.out.setCell (show w.heap.size ≤ w.heap.size + 1 by omega) _).setCell (show w.heap.size ≤ w.heap.size + 1 by omega) _))
end Go.Proofs.Ytnnimjaigciedaa
