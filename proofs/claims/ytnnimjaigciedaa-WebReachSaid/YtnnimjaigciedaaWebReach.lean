/-
  tollhouselaw07.WebReach returns true for every input: to which nodes a way leads, and who is near, are the document's; nothing that was there is written.
-/
import Derived.Test.YtnnimjaigciedaaWebNh
import Derived.Test.YtnnimjaigciedaaWebAw
import Derived.Test.YtnnimjaigciedaaWebArg
import Derived.Test.YtnnimjaigciedaaRows
namespace Go.Proofs.Ytnnimjaigciedaa.webReach
open Go.ChangeShapes Go.WideShapes Go.ChangeAt Go.RowKit
set_option linter.unusedVariables false

def Ok (w : World) (e : Ending) (w' : World) : Prop := e = .returned (.bool true) ∧ Below w.heap.size w w'
set_option maxRecDepth 100000 in
set_option maxHeartbeats 4000000 in
theorem way_dark (sa0 : Option Addr) (sl sc0 : Nat) (ea0 : Option Addr) (el ec0 : Nat) (node amt x y : Int) (w : World) (hl : lightB sl el = false) :
    Calls Try.prog 4 #[.agg #[.slice sa0 sl sc0, .slice ea0 el ec0], .int .i64 node, .int .u64 amt, .agg #[.int .i64 x, .int .i64 y]] w (Ok w) := by
  have HL := Lib.hid (fun w => light_any sa0 sl sc0 ea0 el ec0 w)
  rw [hl] at HL
  have HP0 : Hid (Blk ((w.alloc (.cells #[.slice sa0 sl sc0, .slice ea0 el ec0] 25)).alloc (.cells #[.int .i64 x, .int .i64 y] 56)) w.heap.size 25 [.slice sa0 sl sc0, .slice ea0 el ec0]) := Lib.hid ((Blk.new w 25 [.slice sa0 sl sc0, .slice ea0 el ec0]).alloc _)
  have B0 : Hid (Below w.heap.size w ((w.alloc (.cells #[.slice sa0 sl sc0, .slice ea0 el ec0] 25)).alloc (.cells #[.int .i64 x, .int .i64 y] 56))) := Lib.hid (((Below.refl _ _).alloc (Nat.le_refl _) _).alloc (by simp) _)
  clear hl
  go_enter Try.func4, Try.ntmps4
  have p0 : ((w.alloc (.cells #[.slice sa0 sl sc0, .slice ea0 el ec0] 25)).alloc (.cells #[.int .i64 x, .int .i64 y] 56)).cell? ⟨w.heap.size, 0, none⟩ = some (.slice sa0 sl sc0) := HP0.out.cell 0
  have p1 : ((w.alloc (.cells #[.slice sa0 sl sc0, .slice ea0 el ec0] 25)).alloc (.cells #[.int .i64 x, .int .i64 y] 56)).cell? ⟨w.heap.size, 1, none⟩ = some (.slice ea0 el ec0) := HP0.out.cell 1
  go_wp2_with fail
  clear p0 p1
  refine (HL.out _).mono ?_
  rintro e Y ⟨rfl, hB⟩
  have B1 := Lib.hid (B0.out.trans (hB.mono B0.out.size))
  clear hB B0
  go_wp2_with fail
  refine (wawake_any _).mono ?_
  rintro e Y2 ⟨rfl, hB⟩
  have B2 := Lib.hid (B1.out.trans (hB.mono B1.out.size))
  clear hB B1
  go_wp2
  go_ret
  exact ⟨rfl, B2.out⟩

set_option maxRecDepth 100000 in
set_option maxHeartbeats 8000000 in
theorem way_light (sa0 : Option Addr) (sl sc0 : Nat) (ea0 : Option Addr) (el ec0 : Nat) (sp : List (Int × Int)) (es : List Ed) (node amt x y : Int) (w : World) (hl : lightB sl el = true) (hsl : sp.length = sl) (hel : es.length = el) (hS : SpotRow w sa0 sp) (hE : EdgeRow w ea0 es) (hok : ∀ e ∈ es, EdOk e) :
    Calls Try.prog 4 #[.agg #[.slice sa0 sl sc0, .slice ea0 el ec0], .int .i64 node, .int .u64 amt, .agg #[.int .i64 x, .int .i64 y]] w (Ok w) := by
  have HL := Lib.hid (fun w => light_any sa0 sl sc0 ea0 el ec0 w)
  rw [hl] at HL
  have hlt : sl ≤ 20 ∧ el ≤ 30 := by unfold lightB at hl; exact of_decide_eq_true hl
  obtain ⟨hs20, he30⟩ := hlt
  have HSL := Lib.hid hsl
  have HEL := Lib.hid hel
  have HOK := Lib.hid hok
  have B0 : Hid (Below w.heap.size w ((w.alloc (.cells #[.slice sa0 sl sc0, .slice ea0 el ec0] 25)).alloc (.cells #[.int .i64 x, .int .i64 y] 56))) := Lib.hid (((Below.refl _ _).alloc (Nat.le_refl _) _).alloc (by simp) _)
  have HP0 : Hid (Blk ((w.alloc (.cells #[.slice sa0 sl sc0, .slice ea0 el ec0] 25)).alloc (.cells #[.int .i64 x, .int .i64 y] 56)) w.heap.size 25 [.slice sa0 sl sc0, .slice ea0 el ec0]) := Lib.hid ((Blk.new w 25 [.slice sa0 sl sc0, .slice ea0 el ec0]).alloc _)
  have HR0 : Hid (Blk ((w.alloc (.cells #[.slice sa0 sl sc0, .slice ea0 el ec0] 25)).alloc (.cells #[.int .i64 x, .int .i64 y] 56)) (w.heap.size + 1) 56 [.int .i64 x, .int .i64 y]) := Lib.hid (Blk.mk_ (cs := [.int .i64 x, .int .i64 y]) (by simp))
  have HS0 := Lib.hid hS
  have HE0 := Lib.hid hE
  clear hl hsl hel hok hS hE
  go_enter Try.func4, Try.ntmps4
  have p0 : ((w.alloc (.cells #[.slice sa0 sl sc0, .slice ea0 el ec0] 25)).alloc (.cells #[.int .i64 x, .int .i64 y] 56)).cell? ⟨w.heap.size, 0, none⟩ = some (.slice sa0 sl sc0) := HP0.out.cell 0
  have p1 : ((w.alloc (.cells #[.slice sa0 sl sc0, .slice ea0 el ec0] 25)).alloc (.cells #[.int .i64 x, .int .i64 y] 56)).cell? ⟨w.heap.size, 1, none⟩ = some (.slice ea0 el ec0) := HP0.out.cell 1
  go_wp2_with fail
  clear p0 p1
  refine (HL.out _).mono ?_
  rintro e V1 ⟨rfl, hB⟩
  have P1 := Lib.hid (HP0.out.below hB HP0.out.lt)
  have R1 := Lib.hid (HR0.out.below hB HR0.out.lt)
  have B1 := Lib.hid (B0.out.trans (hB.mono B0.out.size))
  obtain ⟨gp, hgp⟩ : ∃ gp, w.heap.size = gp := ⟨_, rfl⟩
  rw [hgp] at P1 R1 ⊢
  clear hB B0 HP0 HR0 HL
  have p0 : V1.cell? ⟨gp, 0, none⟩ = some (.slice sa0 sl sc0) := P1.out.cell 0
  have p1 : V1.cell? ⟨gp, 1, none⟩ = some (.slice ea0 el ec0) := P1.out.cell 1
  have HGP := Lib.hid hgp
  clear hgp
  go_wp2_with fail
  clear p0 p1
  refine (wto_any sa0 sl sc0 ea0 el ec0 sp es V1 (HS0.out.below B1.out) (HE0.out.below B1.out) HSL.out HEL.out hs20 he30).mono ?_
  rintro e V2 ⟨sa1, sc1, ea1, ec1, rfl, hS1, hE1, hn1, hn2, hB⟩
  have P2 := Lib.hid (P1.out.below hB P1.out.lt)
  have R2 := Lib.hid (R1.out.below hB R1.out.lt)
  have B2 := Lib.hid (B1.out.trans (hB.mono B1.out.size))
  have HS1 := Lib.hid hS1
  have HE1 := Lib.hid hE1
  clear hB P1 R1 B1 hS1 hE1 hn1 hn2
  have hBo : Below V2.heap.size V2 (V2.alloc (.cells #[.slice sa1 sl sc1, .slice ea1 el ec1] 31)) := (Below.refl _ _).alloc (Nat.le_refl _) _
  have QV4 : Hid (Blk (V2.alloc (.cells #[.slice sa1 sl sc1, .slice ea1 el ec1] 31)) V2.heap.size 31 [.slice sa1 sl sc1, .slice ea1 el ec1]) := Lib.hid (Blk.new _ _ [.slice sa1 sl sc1, .slice ea1 el ec1])
  have PV4 := Lib.hid (P2.out.below hBo P2.out.lt)
  have RV4 := Lib.hid (R2.out.below hBo R2.out.lt)
  have BV4 := Lib.hid (B2.out.trans (hBo.mono B2.out.size))
  have S1V4 := Lib.hid (HS1.out.below hBo)
  have E1V4 := Lib.hid (HE1.out.below hBo)
  have S0V4 := Lib.hid (HS0.out.below BV4.out)
  have E0V4 := Lib.hid (HE0.out.below BV4.out)
  clear hBo P2 R2 B2 HS0 HE0 HS1 HE1
  go_upto_region 4 with fail
  generalize V2.alloc (.cells #[.slice sa1 sl sc1, .slice ea1 el ec1] 31) = V4 at QV4 PV4 RV4 BV4 S1V4 E1V4 S0V4 E0V4 ⊢
  generalize V2.heap.size = gq at QV4 ⊢
  have hBz : Below V4.heap.size V4 V4.drew := below_drewN (Below.refl _ _) 1
  have PX0 : Hid (Blk V4.drew gp 25 [.slice sa0 sl sc0, .slice ea0 el ec0]) := Lib.hid (PV4.out.below hBz PV4.out.lt)
  have RX0 : Hid (Blk V4.drew (gp + 1) 56 [.int .i64 x, .int .i64 y]) := Lib.hid (RV4.out.below hBz RV4.out.lt)
  have QX0 : Hid (Blk V4.drew gq 31 [.slice sa1 sl sc1, .slice ea1 el ec1]) := Lib.hid (QV4.out.below hBz QV4.out.lt)
  have S0X0 : Hid (SpotRow V4.drew sa0 sp) := Lib.hid (S0V4.out.below hBz)
  have E0X0 : Hid (EdgeRow V4.drew ea0 es) := Lib.hid (E0V4.out.below hBz)
  have S1X0 : Hid (SpotRow V4.drew sa1 sp) := Lib.hid (S1V4.out.below hBz)
  have E1X0 : Hid (EdgeRow V4.drew ea1 es) := Lib.hid (E1V4.out.below hBz)
  have BX0 : Hid (Below w.heap.size w V4.drew) := Lib.hid (BV4.out.trans (hBz.mono BV4.out.size))
  clear hBz
  refine wp_region_held_drew (S := fun w' => Blk w' gq 31 [.slice sa1 sl sc1, .slice ea1 el ec1] ∧ Blk w' gp 25 [.slice sa0 sl sc0, .slice ea0 el ec0] ∧ Blk w' (gp + 1) 56 [.int .i64 x, .int .i64 y]) (by kernel_rfl) (⟨QX0.out, PX0.out, RX0.out⟩) (fun hHeld => ?_)
  generalize V4.drew = X0 at hHeld PX0 RX0 QX0 S0X0 E0X0 S1X0 E1X0 BX0 ⊢
  refine wpAnyH_ready (rs := [0]) (by kernel_rfl) (by simp) ?_
  refine AllReadyH.cons rfl (fun K hK => ?_) AllReadyH.nil
  refine step_call rfl 14 #[] #[] rfl #[] (by simp) (by go_simp) (wawake_any X0) ?_
  rintro e X1 ⟨rfl, hB⟩
  have PX1 : Hid (Blk X1 gp 25 [.slice sa0 sl sc0, .slice ea0 el ec0]) := Lib.hid (PX0.out.below hB PX0.out.lt)
  have RX1 : Hid (Blk X1 (gp + 1) 56 [.int .i64 x, .int .i64 y]) := Lib.hid (RX0.out.below hB RX0.out.lt)
  have QX1 : Hid (Blk X1 gq 31 [.slice sa1 sl sc1, .slice ea1 el ec1]) := Lib.hid (QX0.out.below hB QX0.out.lt)
  have S0X1 : Hid (SpotRow X1 sa0 sp) := Lib.hid (S0X0.out.below hB)
  have E0X1 : Hid (EdgeRow X1 ea0 es) := Lib.hid (E0X0.out.below hB)
  have S1X1 : Hid (SpotRow X1 sa1 sp) := Lib.hid (S1X0.out.below hB)
  have E1X1 : Hid (EdgeRow X1 ea1 es) := Lib.hid (E1X0.out.below hB)
  have BX1 : Hid (Below w.heap.size w X1) := Lib.hid (BX0.out.trans (hB.mono BX0.out.size))
  clear PX0 RX0 QX0 S0X0 E0X0 S1X0 E1X0 BX0 hB
  refine ⟨_, rfl, hK.out _ _ (⟨QX1.out, PX1.out, RX1.out⟩) (fun hHeld => ?_)⟩
  clear hK K
  show wpAnyH _ _ _ _ _ _ _ (Act.put _ (some 16) _) _
  simp only [Act.put, List.setIfInBounds_toArray, List.set_cons_zero, List.set_cons_succ]
  refine wpAnyH_take (i := 1) (v := .bool true) rfl (by kernel_rfl) (by kernel_rfl) (by kernel_rfl) (fun _ _ _ h => h) (Or.inl ⟨by rfl, fun w _ => by rfl⟩) hHeld ?_
  show wpAnyH _ _ _ _ _ _ _ (Act.put _ (some 17) _) _
  simp only [Act.put, List.setIfInBounds_toArray, List.set_cons_zero, List.set_cons_succ]
  refine wpAnyH_take (i := 2) (v := .agg #[.slice sa1 sl sc1, .slice ea1 el ec1]) rfl (by kernel_rfl) (by kernel_rfl) (by kernel_rfl) (fun _ _ _ h => h) (Or.inl ⟨by rfl, by intro w' h; have k0 := Blk.cell h.1 0; have k1 := Blk.cell h.1 1; simp only [List.getElem?_cons_zero, List.getElem?_cons_succ] at k0 k1; go_simp⟩) hHeld ?_
  show wpAnyH _ _ _ _ _ _ _ (Act.put _ (some 18) _) _
  simp only [Act.put, List.setIfInBounds_toArray, List.set_cons_zero, List.set_cons_succ]
  refine wpAnyH_take (i := 3) (v := .int .i64 node) rfl (by kernel_rfl) (by kernel_rfl) (by kernel_rfl) (fun _ _ _ h => h) (Or.inl ⟨by rfl, fun w _ => by rfl⟩) hHeld ?_
  show wpAnyH _ _ _ _ _ _ _ (Act.put _ (some 19) _) _
  simp only [Act.put, List.setIfInBounds_toArray, List.set_cons_zero, List.set_cons_succ]
  refine wpAnyH_take (i := 4) (v := .int .u64 amt) rfl (by kernel_rfl) (by kernel_rfl) (by kernel_rfl) (fun _ _ _ h => h) (Or.inl ⟨by rfl, fun w _ => by rfl⟩) hHeld ?_
  show wpAnyH _ _ _ _ _ _ _ (Act.put _ (some 20) _) _
  simp only [Act.put, List.setIfInBounds_toArray, List.set_cons_zero, List.set_cons_succ]
  refine wpAnyH_take (i := 6) (v := .agg #[.slice sa0 sl sc0, .slice ea0 el ec0]) rfl (by kernel_rfl) (by kernel_rfl) (by kernel_rfl) (fun _ _ _ h => h) (Or.inl ⟨by rfl, by intro w' h; have k0 := Blk.cell h.2.1 0; have k1 := Blk.cell h.2.1 1; simp only [List.getElem?_cons_zero, List.getElem?_cons_succ] at k0 k1; go_simp⟩) hHeld ?_
  show wpAnyH _ _ _ _ _ _ _ (Act.put _ (some 22) _) _
  simp only [Act.put, List.setIfInBounds_toArray, List.set_cons_zero, List.set_cons_succ]
  refine wpAnyH_take (i := 7) (v := .int .i64 node) rfl (by kernel_rfl) (by kernel_rfl) (by kernel_rfl) (fun _ _ _ h => h) (Or.inl ⟨by rfl, fun w _ => by rfl⟩) hHeld ?_
  show wpAnyH _ _ _ _ _ _ _ (Act.put _ (some 23) _) _
  simp only [Act.put, List.setIfInBounds_toArray, List.set_cons_zero, List.set_cons_succ]
  refine wpAnyH_take (i := 8) (v := .int .u64 amt) rfl (by kernel_rfl) (by kernel_rfl) (by kernel_rfl) (fun _ _ _ h => h) (Or.inl ⟨by rfl, fun w _ => by rfl⟩) hHeld ?_
  show wpAnyH _ _ _ _ _ _ _ (Act.put _ (some 24) _) _
  simp only [Act.put, List.setIfInBounds_toArray, List.set_cons_zero, List.set_cons_succ]
  refine wpAnyH_ready (rs := [5]) (by kernel_rfl) (by simp) ?_
  refine AllReadyH.cons rfl (fun K hK => ?_) AllReadyH.nil
  refine step_call rfl 22 #[.tmp 18, .tmp 19, .tmp 20] #[31, 3, 40] rfl #[.agg #[.slice sa1 sl sc1, .slice ea1 el ec1], .int .i64 node, .int .u64 amt] (by simp [Act.eval]) (by go_simp) (reach_any sa1 sl sc1 ea1 el ec1 es node amt X1 E1X1.out HEL.out (by omega) (by omega)) ?_
  rintro e X2 ⟨la, lc, l, rfl, hl, hR, hB⟩
  have PX2 : Hid (Blk X2 gp 25 [.slice sa0 sl sc0, .slice ea0 el ec0]) := Lib.hid (PX1.out.below hB PX1.out.lt)
  have RX2 : Hid (Blk X2 (gp + 1) 56 [.int .i64 x, .int .i64 y]) := Lib.hid (RX1.out.below hB RX1.out.lt)
  have QX2 : Hid (Blk X2 gq 31 [.slice sa1 sl sc1, .slice ea1 el ec1]) := Lib.hid (QX1.out.below hB QX1.out.lt)
  have S0X2 : Hid (SpotRow X2 sa0 sp) := Lib.hid (S0X1.out.below hB)
  have E0X2 : Hid (EdgeRow X2 ea0 es) := Lib.hid (E0X1.out.below hB)
  have S1X2 : Hid (SpotRow X2 sa1 sp) := Lib.hid (S1X1.out.below hB)
  have E1X2 : Hid (EdgeRow X2 ea1 es) := Lib.hid (E1X1.out.below hB)
  have BX2 : Hid (Below w.heap.size w X2) := Lib.hid (BX1.out.trans (hB.mono BX1.out.size))
  have LX2 : Hid (IRow X2 la l) := Lib.hid (hR)
  have HRL := Lib.hid hl
  obtain ⟨n, hn⟩ : ∃ n, l.length = n := ⟨_, rfl⟩
  have hn20 : n ≤ 20 := by have h9 := hl.le; omega
  rw [hn]
  have HLN := Lib.hid hn
  clear hl hn hR
  clear PX1 RX1 QX1 S0X1 E0X1 S1X1 E1X1 BX1 hB
  refine ⟨_, rfl, hK.out _ _ (⟨QX2.out, PX2.out, RX2.out⟩) (fun hHeld => ?_)⟩
  clear hK K
  show wpAnyH _ _ _ _ _ _ _ (Act.put _ (some 21) _) _
  simp only [Act.put, List.setIfInBounds_toArray, List.set_cons_zero, List.set_cons_succ]
  refine wpAnyH_ready (rs := [9]) (by kernel_rfl) (by simp) ?_
  refine AllReadyH.cons rfl (fun K hK => ?_) AllReadyH.nil
  refine step_call rfl 23 #[.tmp 22, .tmp 23, .tmp 24] #[25, 3, 40] rfl #[.agg #[.slice sa0 sl sc0, .slice ea0 el ec0], .int .i64 node, .int .u64 amt] (by simp [Act.eval]) (by go_simp) (rreach_any sa0 sl sc0 ea0 el ec0 es node amt X2 E0X2.out HEL.out (by omega) (by omega) HOK.out) ?_
  rintro e X3 ⟨ma, mc, m, rfl, hm, hR, hB⟩
  have hml : l = m := HRL.out.eq hm
  subst hml
  rw [HLN.out]
  have PX3 : Hid (Blk X3 gp 25 [.slice sa0 sl sc0, .slice ea0 el ec0]) := Lib.hid (PX2.out.below hB PX2.out.lt)
  have RX3 : Hid (Blk X3 (gp + 1) 56 [.int .i64 x, .int .i64 y]) := Lib.hid (RX2.out.below hB RX2.out.lt)
  have QX3 : Hid (Blk X3 gq 31 [.slice sa1 sl sc1, .slice ea1 el ec1]) := Lib.hid (QX2.out.below hB QX2.out.lt)
  have S0X3 : Hid (SpotRow X3 sa0 sp) := Lib.hid (S0X2.out.below hB)
  have E0X3 : Hid (EdgeRow X3 ea0 es) := Lib.hid (E0X2.out.below hB)
  have S1X3 : Hid (SpotRow X3 sa1 sp) := Lib.hid (S1X2.out.below hB)
  have E1X3 : Hid (EdgeRow X3 ea1 es) := Lib.hid (E1X2.out.below hB)
  have BX3 : Hid (Below w.heap.size w X3) := Lib.hid (BX2.out.trans (hB.mono BX2.out.size))
  have LX3 : Hid (IRow X3 la l) := Lib.hid (LX2.out.below hB)
  have MX3 : Hid (IRow X3 ma l) := Lib.hid (hR)
  clear hm hR
  clear PX2 RX2 QX2 S0X2 E0X2 S1X2 E1X2 BX2 LX2 hB
  refine ⟨_, rfl, hK.out _ _ (⟨QX3.out, PX3.out, RX3.out⟩) (fun hHeld => ?_)⟩
  clear hK K
  show wpAnyH _ _ _ _ _ _ _ (Act.put _ (some 25) _) _
  simp only [Act.put, List.setIfInBounds_toArray, List.set_cons_zero, List.set_cons_succ]
  refine wpAnyH_ready (rs := [10]) (by kernel_rfl) (by simp) ?_
  refine AllReadyH.cons rfl (fun K hK => ?_) AllReadyH.nil
  refine step_call rfl 21 #[.tmp 21, .tmp 25] #[58, 58] rfl #[.slice la n lc, .slice ma n mc] (by simp [Act.eval]) (by go_simp) (isame_any la n lc ma mc l X3 HLN.out (by omega) LX3.out MX3.out) ?_
  rintro e X4 ⟨rfl, hB⟩
  have PX4 : Hid (Blk X4 gp 25 [.slice sa0 sl sc0, .slice ea0 el ec0]) := Lib.hid (PX3.out.below hB PX3.out.lt)
  have RX4 : Hid (Blk X4 (gp + 1) 56 [.int .i64 x, .int .i64 y]) := Lib.hid (RX3.out.below hB RX3.out.lt)
  have QX4 : Hid (Blk X4 gq 31 [.slice sa1 sl sc1, .slice ea1 el ec1]) := Lib.hid (QX3.out.below hB QX3.out.lt)
  have S0X4 : Hid (SpotRow X4 sa0 sp) := Lib.hid (S0X3.out.below hB)
  have E0X4 : Hid (EdgeRow X4 ea0 es) := Lib.hid (E0X3.out.below hB)
  have S1X4 : Hid (SpotRow X4 sa1 sp) := Lib.hid (S1X3.out.below hB)
  have E1X4 : Hid (EdgeRow X4 ea1 es) := Lib.hid (E1X3.out.below hB)
  have BX4 : Hid (Below w.heap.size w X4) := Lib.hid (BX3.out.trans (hB.mono BX3.out.size))
  have LX4 : Hid (IRow X4 la l) := Lib.hid (LX3.out.below hB)
  have MX4 : Hid (IRow X4 ma l) := Lib.hid (MX3.out.below hB)
  clear PX3 RX3 QX3 S0X3 E0X3 S1X3 E1X3 BX3 LX3 MX3 hB
  refine ⟨_, rfl, hK.out _ _ (⟨QX4.out, PX4.out, RX4.out⟩) (fun hHeld => ?_)⟩
  clear hK K
  show wpAnyH _ _ _ _ _ _ _ (Act.put _ (some 26) _) _
  simp only [Act.put, List.setIfInBounds_toArray, List.set_cons_zero, List.set_cons_succ]
  refine wpAnyH_take (i := 11) (v := .bool true) rfl (by kernel_rfl) (by kernel_rfl) (by kernel_rfl) (fun _ _ _ h => h) (Or.inl ⟨by rfl, by intro w hSw; first | rfl | go_simp⟩) hHeld ?_
  show wpAnyH _ _ _ _ _ _ _ (Act.put _ (some 27) _) _
  simp only [Act.put, List.setIfInBounds_toArray, List.set_cons_zero, List.set_cons_succ]
  refine wpAnyH_take (i := 12) (v := .bool true) rfl (by kernel_rfl) (by kernel_rfl) (by kernel_rfl) (fun _ _ _ h => h) (Or.inl ⟨by rfl, fun w _ => by rfl⟩) hHeld ?_
  show wpAnyH _ _ _ _ _ _ _ (Act.put _ (some 28) _) _
  simp only [Act.put, List.setIfInBounds_toArray, List.set_cons_zero, List.set_cons_succ]
  refine wpAnyH_take (i := 13) (v := .agg #[.slice sa1 sl sc1, .slice ea1 el ec1]) rfl (by kernel_rfl) (by kernel_rfl) (by kernel_rfl) (fun _ _ _ h => h) (Or.inl ⟨by rfl, by intro w' h; have k0 := Blk.cell h.1 0; have k1 := Blk.cell h.1 1; simp only [List.getElem?_cons_zero, List.getElem?_cons_succ] at k0 k1; go_simp⟩) hHeld ?_
  show wpAnyH _ _ _ _ _ _ _ (Act.put _ (some 29) _) _
  simp only [Act.put, List.setIfInBounds_toArray, List.set_cons_zero, List.set_cons_succ]
  refine wpAnyH_take (i := 14) (v := .int .i64 node) rfl (by kernel_rfl) (by kernel_rfl) (by kernel_rfl) (fun _ _ _ h => h) (Or.inl ⟨by rfl, fun w _ => by rfl⟩) hHeld ?_
  show wpAnyH _ _ _ _ _ _ _ (Act.put _ (some 30) _) _
  simp only [Act.put, List.setIfInBounds_toArray, List.set_cons_zero, List.set_cons_succ]
  refine wpAnyH_take (i := 15) (v := .agg #[.int .i64 x, .int .i64 y]) rfl (by kernel_rfl) (by kernel_rfl) (by kernel_rfl) (fun _ _ _ h => h) (Or.inl ⟨by rfl, by intro w' h; have k0 := Blk.cell h.2.2 0; have k1 := Blk.cell h.2.2 1; simp only [List.getElem?_cons_zero, List.getElem?_cons_succ] at k0 k1; go_simp⟩) hHeld ?_
  show wpAnyH _ _ _ _ _ _ _ (Act.put _ (some 31) _) _
  simp only [Act.put, List.setIfInBounds_toArray, List.set_cons_zero, List.set_cons_succ]
  refine wpAnyH_take (i := 17) (v := .int .u64 amt) rfl (by kernel_rfl) (by kernel_rfl) (by kernel_rfl) (fun _ _ _ h => h) (Or.inl ⟨by rfl, fun w _ => by rfl⟩) hHeld ?_
  show wpAnyH _ _ _ _ _ _ _ (Act.put _ (some 33) _) _
  simp only [Act.put, List.setIfInBounds_toArray, List.set_cons_zero, List.set_cons_succ]
  refine wpAnyH_take (i := 19) (v := .agg #[.slice sa0 sl sc0, .slice ea0 el ec0]) rfl (by kernel_rfl) (by kernel_rfl) (by kernel_rfl) (fun _ _ _ h => h) (Or.inl ⟨by rfl, by intro w' h; have k0 := Blk.cell h.2.1 0; have k1 := Blk.cell h.2.1 1; simp only [List.getElem?_cons_zero, List.getElem?_cons_succ] at k0 k1; go_simp⟩) hHeld ?_
  show wpAnyH _ _ _ _ _ _ _ (Act.put _ (some 35) _) _
  simp only [Act.put, List.setIfInBounds_toArray, List.set_cons_zero, List.set_cons_succ]
  refine wpAnyH_take (i := 20) (v := .int .i64 node) rfl (by kernel_rfl) (by kernel_rfl) (by kernel_rfl) (fun _ _ _ h => h) (Or.inl ⟨by rfl, fun w _ => by rfl⟩) hHeld ?_
  show wpAnyH _ _ _ _ _ _ _ (Act.put _ (some 36) _) _
  simp only [Act.put, List.setIfInBounds_toArray, List.set_cons_zero, List.set_cons_succ]
  refine wpAnyH_take (i := 21) (v := .agg #[.int .i64 x, .int .i64 y]) rfl (by kernel_rfl) (by kernel_rfl) (by kernel_rfl) (fun _ _ _ h => h) (Or.inl ⟨by rfl, by intro w' h; have k0 := Blk.cell h.2.2 0; have k1 := Blk.cell h.2.2 1; simp only [List.getElem?_cons_zero, List.getElem?_cons_succ] at k0 k1; go_simp⟩) hHeld ?_
  show wpAnyH _ _ _ _ _ _ _ (Act.put _ (some 37) _) _
  simp only [Act.put, List.setIfInBounds_toArray, List.set_cons_zero, List.set_cons_succ]
  refine wpAnyH_take (i := 22) (v := .int .u64 amt) rfl (by kernel_rfl) (by kernel_rfl) (by kernel_rfl) (fun _ _ _ h => h) (Or.inl ⟨by rfl, fun w _ => by rfl⟩) hHeld ?_
  show wpAnyH _ _ _ _ _ _ _ (Act.put _ (some 38) _) _
  simp only [Act.put, List.setIfInBounds_toArray, List.set_cons_zero, List.set_cons_succ]
  refine wpAnyH_ready (rs := [16]) (by kernel_rfl) (by simp) ?_
  refine AllReadyH.cons rfl (fun K hK => ?_) AllReadyH.nil
  refine step_call rfl 25 #[.tmp 31] #[56] rfl #[.agg #[.int .i64 x, .int .i64 y]] (by simp [Act.eval]) (by go_simp) (to_any x y X4) ?_
  rintro e X5 ⟨rfl, hB⟩
  have PX5 : Hid (Blk X5 gp 25 [.slice sa0 sl sc0, .slice ea0 el ec0]) := Lib.hid (PX4.out.below hB PX4.out.lt)
  have RX5 : Hid (Blk X5 (gp + 1) 56 [.int .i64 x, .int .i64 y]) := Lib.hid (RX4.out.below hB RX4.out.lt)
  have QX5 : Hid (Blk X5 gq 31 [.slice sa1 sl sc1, .slice ea1 el ec1]) := Lib.hid (QX4.out.below hB QX4.out.lt)
  have S0X5 : Hid (SpotRow X5 sa0 sp) := Lib.hid (S0X4.out.below hB)
  have E0X5 : Hid (EdgeRow X5 ea0 es) := Lib.hid (E0X4.out.below hB)
  have S1X5 : Hid (SpotRow X5 sa1 sp) := Lib.hid (S1X4.out.below hB)
  have E1X5 : Hid (EdgeRow X5 ea1 es) := Lib.hid (E1X4.out.below hB)
  have BX5 : Hid (Below w.heap.size w X5) := Lib.hid (BX4.out.trans (hB.mono BX4.out.size))
  have LX5 : Hid (IRow X5 la l) := Lib.hid (LX4.out.below hB)
  have MX5 : Hid (IRow X5 ma l) := Lib.hid (MX4.out.below hB)
  clear PX4 RX4 QX4 S0X4 E0X4 S1X4 E1X4 BX4 LX4 MX4 hB
  refine ⟨_, rfl, hK.out _ _ (⟨QX5.out, PX5.out, RX5.out⟩) (fun hHeld => ?_)⟩
  clear hK K
  show wpAnyH _ _ _ _ _ _ _ (Act.put _ (some 32) _) _
  simp only [Act.put, List.setIfInBounds_toArray, List.set_cons_zero, List.set_cons_succ]
  refine wpAnyH_ready (rs := [18]) (by kernel_rfl) (by simp) ?_
  refine AllReadyH.cons rfl (fun K hK => ?_) AllReadyH.nil
  refine step_call rfl 24 #[.tmp 29, .tmp 30, .tmp 32, .tmp 33] #[31, 3, 62, 40] rfl #[.agg #[.slice sa1 sl sc1, .slice ea1 el ec1], .int .i64 node, .agg #[.int .i64 x, .int .i64 y], .int .u64 amt] (by simp [Act.eval]) (by go_simp) (near_any sa1 sl sc1 ea1 el ec1 sp es node amt x y X5 S1X5.out HSL.out E1X5.out HEL.out (by omega) (by omega)) ?_
  rintro e X6 ⟨rfl, hB⟩
  have PX6 : Hid (Blk X6 gp 25 [.slice sa0 sl sc0, .slice ea0 el ec0]) := Lib.hid (PX5.out.below hB PX5.out.lt)
  have RX6 : Hid (Blk X6 (gp + 1) 56 [.int .i64 x, .int .i64 y]) := Lib.hid (RX5.out.below hB RX5.out.lt)
  have QX6 : Hid (Blk X6 gq 31 [.slice sa1 sl sc1, .slice ea1 el ec1]) := Lib.hid (QX5.out.below hB QX5.out.lt)
  have S0X6 : Hid (SpotRow X6 sa0 sp) := Lib.hid (S0X5.out.below hB)
  have E0X6 : Hid (EdgeRow X6 ea0 es) := Lib.hid (E0X5.out.below hB)
  have S1X6 : Hid (SpotRow X6 sa1 sp) := Lib.hid (S1X5.out.below hB)
  have E1X6 : Hid (EdgeRow X6 ea1 es) := Lib.hid (E1X5.out.below hB)
  have BX6 : Hid (Below w.heap.size w X6) := Lib.hid (BX5.out.trans (hB.mono BX5.out.size))
  have LX6 : Hid (IRow X6 la l) := Lib.hid (LX5.out.below hB)
  have MX6 : Hid (IRow X6 ma l) := Lib.hid (MX5.out.below hB)
  obtain ⟨na, hna⟩ : ∃ na, nearA sl sp es node amt x y = na := ⟨_, rfl⟩
  rw [hna]
  have HNA := Lib.hid hna
  clear hna
  clear PX5 RX5 QX5 S0X5 E0X5 S1X5 E1X5 BX5 LX5 MX5 hB
  refine ⟨_, rfl, hK.out _ _ (⟨QX6.out, PX6.out, RX6.out⟩) (fun hHeld => ?_)⟩
  clear hK K
  show wpAnyH _ _ _ _ _ _ _ (Act.put _ (some 34) _) _
  simp only [Act.put, List.setIfInBounds_toArray, List.set_cons_zero, List.set_cons_succ]
  refine wpAnyH_ready (rs := [23]) (by kernel_rfl) (by simp) ?_
  refine AllReadyH.cons rfl (fun K hK => ?_) AllReadyH.nil
  refine step_call rfl 26 #[.tmp 35, .tmp 36, .tmp 37, .tmp 38] #[25, 3, 56, 40] rfl #[.agg #[.slice sa0 sl sc0, .slice ea0 el ec0], .int .i64 node, .agg #[.int .i64 x, .int .i64 y], .int .u64 amt] (by simp [Act.eval]) (by go_simp) (rnear_any sa0 sl sc0 ea0 el ec0 sp es node amt x y X6 S0X6.out HSL.out E0X6.out HEL.out (by omega) (by omega) HOK.out) ?_
  rintro e X7 ⟨rfl, hB⟩
  have PX7 : Hid (Blk X7 gp 25 [.slice sa0 sl sc0, .slice ea0 el ec0]) := Lib.hid (PX6.out.below hB PX6.out.lt)
  have RX7 : Hid (Blk X7 (gp + 1) 56 [.int .i64 x, .int .i64 y]) := Lib.hid (RX6.out.below hB RX6.out.lt)
  have QX7 : Hid (Blk X7 gq 31 [.slice sa1 sl sc1, .slice ea1 el ec1]) := Lib.hid (QX6.out.below hB QX6.out.lt)
  have S0X7 : Hid (SpotRow X7 sa0 sp) := Lib.hid (S0X6.out.below hB)
  have E0X7 : Hid (EdgeRow X7 ea0 es) := Lib.hid (E0X6.out.below hB)
  have S1X7 : Hid (SpotRow X7 sa1 sp) := Lib.hid (S1X6.out.below hB)
  have E1X7 : Hid (EdgeRow X7 ea1 es) := Lib.hid (E1X6.out.below hB)
  have BX7 : Hid (Below w.heap.size w X7) := Lib.hid (BX6.out.trans (hB.mono BX6.out.size))
  have LX7 : Hid (IRow X7 la l) := Lib.hid (LX6.out.below hB)
  have MX7 : Hid (IRow X7 ma l) := Lib.hid (MX6.out.below hB)
  rw [HNA.out]
  clear PX6 RX6 QX6 S0X6 E0X6 S1X6 E1X6 BX6 LX6 MX6 hB
  refine ⟨_, rfl, hK.out _ _ (⟨QX7.out, PX7.out, RX7.out⟩) (fun hHeld => ?_)⟩
  clear hK K
  show wpAnyH _ _ _ _ _ _ _ (Act.put _ (some 39) _) _
  simp only [Act.put, List.setIfInBounds_toArray, List.set_cons_zero, List.set_cons_succ]
  refine wpAnyH_take (i := 24) (v := .bool true) rfl (by kernel_rfl) (by kernel_rfl) (by kernel_rfl) (fun _ _ _ h => h) (Or.inl ⟨by rfl, by intro w' h; go_simp⟩) hHeld ?_
  show wpAnyH _ _ _ _ _ _ _ (Act.put _ (some 40) _) _
  simp only [Act.put, List.setIfInBounds_toArray, List.set_cons_zero, List.set_cons_succ]
  refine wpAnyH_take (i := 25) (v := .bool true) rfl (by kernel_rfl) (by kernel_rfl) (by kernel_rfl) (fun _ _ _ h => h) (Or.inl ⟨by rfl, by intro w hSw; first | rfl | go_simp⟩) hHeld ?_
  show wpAnyH _ _ _ _ _ _ _ (Act.put _ (some 41) _) _
  simp only [Act.put, List.setIfInBounds_toArray, List.set_cons_zero, List.set_cons_succ]
  refine wpAnyH_take (i := 26) (v := .bool true) rfl (by kernel_rfl) (by kernel_rfl) (by kernel_rfl) (fun _ _ _ h => h) (Or.inl ⟨by rfl, fun w _ => by rfl⟩) hHeld ?_
  show wpAnyH _ _ _ _ _ _ _ (Act.put _ (some 8) _) _
  simp only [Act.put, List.setIfInBounds_toArray, List.set_cons_zero, List.set_cons_succ]
  refine wpAnyH_done (by kernel_rfl) ?_ _
  clear hHeld
  go_wp2
  go_ret
  exact ⟨rfl, BX7.out⟩

section
variable {H : Type} {enc : TypeId × Value → H} {W : World} {base : Nat} {spare : Nat → Bool} {held : Bool}
open Go.Deep in
set_option maxRecDepth 100000 in
/-- A spot that came in: its two whole numbers. -/
theorem openSpot {v : Value} {d : DataW H} {p : List MemPlace} {b0 : Nat} (hv : Value.okWide Try.prog W .any b0 56 v) (h : DataW.Trod enc Try.prog W base spare held 56 v d p) :
    ∃ x y, v = .agg #[.int .i64 x, .int .i64 y] ∧ (Lit.int .i64 x).wf = true ∧ (Lit.int .i64 y).wf = true := by
  simp only [Value.okWide, Try.underlying56] at hv
  obtain ⟨cs, rfl, _⟩ := hv
  obtain ⟨fuel, hf⟩ := h
  have hcl : (Value.agg cs).cells.toList = cs.toList := rfl
  rw [hcl] at hf
  have hm : flatR Try.prog 1 56 = [(0, 3), (1, 3)] := by kernel_rfl
  have hl : cs.toList.length = 2 := by
    obtain ⟨_, _, _, _, hl, _⟩ := DataW.trod_struct Try.underlying56 hf
    rw [hl]; kernel_rfl
  obtain ⟨x, h0, w0⟩ := (flat_part 1 56 _ _ _ hf 0 3 (by rw [hm]; simp)).int Try.underlying3
  obtain ⟨y, h1, w1⟩ := (flat_part 1 56 _ _ _ hf 1 3 (by rw [hm]; simp)).int Try.underlying3
  refine ⟨x, y, ?_, w0, w1⟩
  obtain ⟨cs⟩ := cs
  match cs, hl with
  | [u, v], _ =>
    simp at h0 h1
    rw [h0, h1]
end
set_option maxRecDepth 100000 in
theorem lifted (os : Os) (started : os.Started) (H : Type) (enc : TypeId × Value → H) :
    ReturnsInHanded {} Try.checked os 4 .any (Rows.webReachSpec.pre6 enc Try.prog Try.f4 Rows.webReachRow.domain false) (Rows.webReachSpec.post enc Try.prog Try.f4 false true false false) := by
  refine returnsInHanded_of_change (C := Try.checked) own started (by kernel_rfl) Try.func4
    (ChangeSpec.witness6 (enc := enc) (C := Try.checked) false ⟨#[], #[.agg #[.slice none 0 0, .slice none 0 0], .int .i64 0, .int .u64 0, .agg #[.int .i64 0, .int .i64 0]], []⟩ 8 (by kernel_rfl) (by kernel_rfl) (by kernel_rfl) (by kernel_rfl)) ?_
  intro W base args ds gs before hval0 hW hcnd _
  have hval : ∀ (j : Nat) t v, Try.f4.params[j]? = some t → args[j]? = some v → Value.okWide Try.prog W .any base t v := hval0
  have hW' := hW
  obtain ⟨p, q, hA0, hV, rfl, hfz, hnd⟩ := hW
  have hA : DataW.TrodAll enc Try.prog W 0 (fun _ => true) true Try.f4.params.toList args.toList ds p := hA0
  rw [Try.params4] at hA hval
  obtain ⟨v0, vs0, dd0, ds0, p0, q0, hargs, rfl, rfl, h0, r0⟩ := trodAll_cons hA
  obtain ⟨v1, vs1, dd1, ds1, p1, q1, rfl, rfl, rfl, h1, r1⟩ := trodAll_cons r0
  obtain ⟨v2, vs2, dd2, ds2, p2, q2, rfl, rfl, rfl, h2, r2⟩ := trodAll_cons r1
  obtain ⟨v3, vs3, dd3, ds3, p3, q3, rfl, rfl, rfl, h3, r3⟩ := trodAll_cons r2
  obtain ⟨rfl, rfl, rfl⟩ := trodAll_nil r3
  obtain rfl : args = #[v0, v1, v2, v3] := by cases args; simp_all
  obtain ⟨rfl, rfl⟩ := trodVars_none hV
  have k0 := h0
  have lt0 : ∀ x ∈ p0, x.block < W.heap.size := by obtain ⟨m, hm⟩ := k0; exact DataW.trod_lt m _ _ _ hm
  obtain ⟨A0, l0, c0, B0, m0, d0, sp0, es0, rfl, hsp0, hes0, hS0, hE0, hok0, hm0, hn0⟩ := openWeb (hval 0 25 v0 rfl rfl) h0
  obtain ⟨a1, rfl, rfl, rfl, w1⟩ := open_int Try.underlying3 (hval 1 3 v1 rfl rfl) h1
  obtain ⟨a2, rfl, rfl, rfl, w2⟩ := open_int Try.underlying40 (hval 2 40 v2 rfl rfl) h2
  have k3 := h3
  have lt3 : ∀ x ∈ p3, x.block < W.heap.size := by obtain ⟨m, hm⟩ := k3; exact DataW.trod_lt m _ _ _ hm
  obtain ⟨x3, y3, rfl, hx3, hy3⟩ := openSpot (hval 3 56 v3 rfl rfl) h3
  clear hA0 hval0
  refine Calls.mono (R := Ok W) ?_ fun e W1 ⟨he, bel⟩ => ?_
  · skip
    show Calls Try.prog 4 _ W (Ok W)
    by_cases h : lightB l0 m0 = true
    · exact way_light A0 l0 c0 B0 m0 d0 sp0 es0 a1 a2 x3 y3 W h hsp0 hes0 hS0 hE0 hok0
    · exact way_dark A0 l0 c0 B0 m0 d0 a1 a2 x3 y3 W (by simpa using h)
  subst he
  exact ⟨_, rfl, _, _, _, [], _, [], hW', trodAll_mk1 (shut_bool Try.underlying4 _), (trodAll_cons_mk (Below.trod laidOut (by kernel_rfl) (of_decide_eq_true (by kernel_rfl)) k0 bel lt0) (trodAll_cons_mk (shut_int Try.underlying3 w1) (trodAll_cons_mk (shut_int Try.underlying40 w2) (trodAll_cons_mk (Below.trod laidOut (by kernel_rfl) (of_decide_eq_true (by kernel_rfl)) k3 bel lt3) trodAll_mk0)))), rfl, bel.frame _, fun h => by cases h⟩

theorem proved : Rows.WebReachSaid :=
  OpenClaim.holds_of_wide 4 Try.f4 rfl rfl rfl rfl rfl rfl rfl ⟨rfl, rfl, rfl, rfl, rfl⟩ rfl rfl rfl rfl rfl (by kernel_rfl) Try.func4 (by kernel_rfl)
    (of_decide_eq_true (by kernel_rfl)) (by unfold Func.isWrapper; first | (rw [if_pos (by decide +kernel)]; kernel_rfl) | (rw [if_neg (by decide +kernel)]; exact ⟨rfl, rfl⟩))
    (fun os started H enc _ => lifted os started H enc)
#print axioms proved
end Go.Proofs.Ytnnimjaigciedaa.webReach
