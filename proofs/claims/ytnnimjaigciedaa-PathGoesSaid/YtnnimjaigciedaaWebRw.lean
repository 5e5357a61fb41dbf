/-
  The document's Sent: the way that goes; whole.
-/
import Derived.Test.YtnnimjaigciedaaWebRv
namespace Go.Proofs.Ytnnimjaigciedaa
open Go.RowKit
set_option linter.unusedVariables false

set_option maxRecDepth 100000 in
set_option maxHeartbeats 8000000 in
theorem rsent_good0 (sa : Option Addr) (sl sc : Nat) (ea : Option Addr) (el ec : Nat) (es : List Ed) (edge node amt : Int) (w : World) (hE : EdgeRow w ea es) (hel : es.length = el) (hel2 : el ≤ 100) (hsl2 : sl ≤ 1000) (hok : ∀ e ∈ es, EdOk e) (hamt : Word amt) (k : Nat) (p q c d f g h i : Int) (hk : k < el) (hedge : edge = k) (hc : checkE sl es = 0) (hz : es.getD k ed0 = ⟨p, q, c, d, f, g, h, i⟩) (h1 : p = node) (h2 : ¬ q = node) (hle : amt ≤ c) (hlt : d + amt < 18446744073709551616) :
    Calls Try.prog 28 #[.agg #[.slice sa sl sc, .slice ea el ec], .int .i64 edge, .int .i64 node, .int .u64 amt] w (RSent w sa sl sc el es edge node amt) := by
  have hs : sideE ⟨p, q, c, d, f, g, h, i⟩ node = 0 := by unfold sideE; rw [if_pos h1]
  have HX : Hid (sentErr sl es edge node amt = 0) := Lib.hid (by subst hedge; unfold sentErr; rw [if_neg (by rw [hc]; simp), if_neg (by omega), Int.toNat_natCast, hz, hs]; rw [if_neg (by decide), if_neg (by simp [canE, subE]; omega)]; simp [canE, addE]; omega)
  have hwo : Word d := by have h := hok _ (ed_mem es k (by rw [hel]; exact hk)); rw [hz] at h; exact h.2.2.2.1
  have hwc : Word c := by have h := hok _ (ed_mem es k (by rw [hel]; exact hk)); rw [hz] at h; exact h.2.2.1
  have HA := Lib.hid (fun W => radd_any d amt W hwo hamt)
  have hae : addE d amt = 0 := if_pos hlt
  have hav : addV d amt = d + amt := if_pos hlt
  rw [hae, hav] at HA
  obtain ⟨x1, hx1⟩ : ∃ x, c - amt = x := ⟨_, rfl⟩
  obtain ⟨x2, hx2⟩ : ∃ x, d + amt = x := ⟨_, rfl⟩
  rw [hx2] at HA
  have hs1 : IntKind.u64.wrap (c - amt) = x1 := by rw [← hx1]; unfold Word at hwc hamt; simp [IntKind.wrap, IntKind.signed, IntKind.bits]; omega
  have HSN : Hid (sentL es edge node amt = es.set k ⟨p, q, x1, x2, f, g, h, i⟩) := Lib.hid (by subst hedge; unfold sentL; rw [Int.toNat_natCast, hz, hs]; unfold sentEd; simp [← hx1, ← hx2])
  subst hedge
  have HC := Lib.hid hc
  have hk0 : (0 : Int) ≤ (k : Int) := Int.natCast_nonneg _
  have hk1 : (k : Int) < (el : Int) := by omega
  have hk2 : decide ((k : Int) < 0) = false := decide_eq_false (by omega)
  have hk3 : decide ((el : Int) ≤ (k : Int)) = false := decide_eq_false (by omega)
  have hk' : k < es.length := by rw [hel]; exact hk
  have HZ := Lib.hid hz
  have HKK := Lib.hid hk'
  have b1 : (p == node) = true := by simpa using h1
  have b2 : (q == node) = false := by simpa using h2
  have d5 : decide (c < amt) = false := decide_eq_false (by omega)
  clear h1 h2 hs hok hamt hz hle hlt hwo hwc hae hav hx1 hx2
  clear hc hk'
  have HEL := Lib.hid hel
  have E0w := Lib.hid hE
  have HE0 := E0w
  clear hel hE
  go_enter Try.func28, Try.ntmps28
  go_wp2_with fail
  have EY0 : Hid (EdgeRow ((w.alloc (.cells #[.slice sa sl sc, .slice ea el ec] 25)).alloc (.cells #[.slice none 0 0, .slice none 0 0] 25)) ea es) := Lib.hid (E0w.out.below (((Below.refl _ _).alloc (Nat.le_refl _) _).alloc (by simp) _))
  have PY0 : Hid (Blk ((w.alloc (.cells #[.slice sa sl sc, .slice ea el ec] 25)).alloc (.cells #[.slice none 0 0, .slice none 0 0] 25)) w.heap.size 25 [.slice sa sl sc, .slice ea el ec]) := Lib.hid ((Blk.mk_ (cs := [.slice sa sl sc, .slice ea el ec]) rfl).alloc _)
  have RY0 : Hid (Blk ((w.alloc (.cells #[.slice sa sl sc, .slice ea el ec] 25)).alloc (.cells #[.slice none 0 0, .slice none 0 0] 25)) (w.heap.size + 1) 25 [.slice none 0 0, .slice none 0 0]) := Lib.hid (Blk.mk_ (cs := [.slice none 0 0, .slice none 0 0]) (by simp))
  have BY0 : Hid (Below w.heap.size w ((w.alloc (.cells #[.slice sa sl sc, .slice ea el ec] 25)).alloc (.cells #[.slice none 0 0, .slice none 0 0] 25))) := Lib.hid (((Below.refl _ _).alloc (Nat.le_refl _) _).alloc (by simp) _)
  generalize ((w.alloc (.cells #[.slice sa sl sc, .slice ea el ec] 25)).alloc (.cells #[.slice none 0 0, .slice none 0 0] 25)) = Y0 at EY0 PY0 RY0 BY0 ⊢
  have hgr : w.heap.size ≤ w.heap.size + 1 := by omega
  have hpr : w.heap.size ≠ w.heap.size + 1 := by omega
  obtain ⟨gp, hgp⟩ : ∃ g, w.heap.size = g := ⟨_, rfl⟩
  obtain ⟨gr, hgr2⟩ : ∃ g, w.heap.size + 1 = g := ⟨_, rfl⟩
  rw [hgr2] at RY0 hgr hpr ⊢
  rw [hgp] at PY0 hpr
  have HGP := Lib.hid hgp
  clear hgr2
  clear E0w
  refine (rcheck_any sa sl sc ea el ec es Y0 EY0.out HEL.out (by omega) (by omega)).mono ?_
  rintro e Y1 ⟨rfl, hB⟩
  have BY1 : Hid (Below w.heap.size w Y1) := Lib.hid (BY0.out.trans (hB.mono BY0.out.size))
  have EY1 : Hid (EdgeRow Y1 ea es) := Lib.hid (EY0.out.below hB)
  have PY1 : Hid (Blk Y1 gp 25 [.slice sa sl sc, .slice ea el ec]) := Lib.hid (PY0.out.below hB PY0.out.lt)
  have RY1 : Hid (Blk Y1 gr 25 [.slice none 0 0, .slice none 0 0]) := Lib.hid (RY0.out.below hB RY0.out.lt)
  clear BY0 EY0 PY0 RY0
  clear hB
  obtain ⟨be, oe, rfl, hce⟩ := EY1.out.at_ HKK.out
  rw [HZ.out] at hce
  have CY1 : Hid (EdAt Y1 be (oe + k * 8) ⟨p, q, c, d, f, g, h, i⟩) := Lib.hid (hce)
  clear hce
  rw [HC.out]
  have cP0 := Blk.cell PY1.out 0
  have cP1 := Blk.cell PY1.out 1
  simp only [List.getElem?_cons_zero, List.getElem?_cons_succ] at cP0 cP1
  have e0 : Y1.cell? ⟨be, oe + k * 8, none⟩ = some (.int .i64 p) := CY1.out.2 0 _ rfl
  have e1 : Y1.cell? ⟨be, oe + k * 8 + 1, none⟩ = some (.int .i64 q) := CY1.out.2 1 _ rfl
  have e2 : Y1.cell? ⟨be, oe + k * 8 + 2, none⟩ = some (.int .u64 c) := CY1.out.2 2 _ rfl
  have e3 : Y1.cell? ⟨be, oe + k * 8 + 3, none⟩ = some (.int .u64 d) := CY1.out.2 3 _ rfl
  have e4 : Y1.cell? ⟨be, oe + k * 8 + 4, none⟩ = some (.int .u64 f) := CY1.out.2 4 _ rfl
  have e5 : Y1.cell? ⟨be, oe + k * 8 + 5, none⟩ = some (.int .u64 g) := CY1.out.2 5 _ rfl
  have e6 : Y1.cell? ⟨be, oe + k * 8 + 6, none⟩ = some (.int .u64 h) := CY1.out.2 6 _ rfl
  have e7 : Y1.cell? ⟨be, oe + k * 8 + 7, none⟩ = some (.int .u64 i) := CY1.out.2 7 _ rfl
  go_wp2
  refine wp_loop_rounds 3 ?_
  rw [rounds_succ]
  go_wp2
  rw [rounds_succ]
  go_wp2
  rw [rounds_succ]
  have HBo := BY1
  have hB : Below Y1.heap.size Y1 (Y1.alloc (.cells #[.int .i64 p, .int .i64 q, .int .u64 c, .int .u64 d, .int .u64 f, .int .u64 g, .int .u64 h, .int .u64 i] 102)) := (Below.refl _ _).alloc (Nat.le_refl _) _
  have BY2 : Hid (Below w.heap.size w (Y1.alloc (.cells #[.int .i64 p, .int .i64 q, .int .u64 c, .int .u64 d, .int .u64 f, .int .u64 g, .int .u64 h, .int .u64 i] 102))) := Lib.hid (BY1.out.trans (hB.mono BY1.out.size))
  have EY2 : Hid (EdgeRow (Y1.alloc (.cells #[.int .i64 p, .int .i64 q, .int .u64 c, .int .u64 d, .int .u64 f, .int .u64 g, .int .u64 h, .int .u64 i] 102)) (some ⟨be, oe, none⟩) es) := Lib.hid (EY1.out.below hB)
  have PY2 : Hid (Blk (Y1.alloc (.cells #[.int .i64 p, .int .i64 q, .int .u64 c, .int .u64 d, .int .u64 f, .int .u64 g, .int .u64 h, .int .u64 i] 102)) gp 25 [.slice sa sl sc, .slice (some ⟨be, oe, none⟩) el ec]) := Lib.hid (PY1.out.below hB PY1.out.lt)
  have RY2 : Hid (Blk (Y1.alloc (.cells #[.int .i64 p, .int .i64 q, .int .u64 c, .int .u64 d, .int .u64 f, .int .u64 g, .int .u64 h, .int .u64 i] 102)) gr 25 [.slice none 0 0, .slice none 0 0]) := Lib.hid (RY1.out.below hB RY1.out.lt)
  have CY2 : Hid (EdAt (Y1.alloc (.cells #[.int .i64 p, .int .i64 q, .int .u64 c, .int .u64 d, .int .u64 f, .int .u64 g, .int .u64 h, .int .u64 i] 102)) be (oe + k * 8) ⟨p, q, c, d, f, g, h, i⟩) := Lib.hid (CY1.out.below hB)
  have VY2 : Hid (Blk (Y1.alloc (.cells #[.int .i64 p, .int .i64 q, .int .u64 c, .int .u64 d, .int .u64 f, .int .u64 g, .int .u64 h, .int .u64 i] 102)) Y1.heap.size 102 [.int .i64 p, .int .i64 q, .int .u64 c, .int .u64 d, .int .u64 f, .int .u64 g, .int .u64 h, .int .u64 i]) := Lib.hid (Blk.new _ _ [.int .i64 p, .int .i64 q, .int .u64 c, .int .u64 d, .int .u64 f, .int .u64 g, .int .u64 h, .int .u64 i])
  clear hB BY1 EY1 PY1 RY1 CY1
  go_wp2_with fail
  clear cP0 cP1
  generalize (Y1.alloc (.cells #[.int .i64 p, .int .i64 q, .int .u64 c, .int .u64 d, .int .u64 f, .int .u64 g, .int .u64 h, .int .u64 i] 102)) = Y2 at BY2 EY2 PY2 RY2 CY2 VY2 ⊢
  obtain ⟨gv, hgv0⟩ : ∃ g, Y1.heap.size = g := ⟨_, rfl⟩
  have HGV : Hid (w.heap.size ≤ gv) := Lib.hid (by rw [← hgv0]; exact HBo.out.size)
  rw [hgv0] at VY2 ⊢
  clear hgv0
  clear e0 e1 e2 e3 e4 e5 e6 e7
  refine (HA.out _).mono ?_
  rintro e Y9 ⟨rfl, rfl⟩
  have v0 := VY2.out.cell 2
  have v1 := VY2.out.cell 3
  simp only [List.getElem?_cons_zero, List.getElem?_cons_succ] at v0 v1
  have v2 := VY2.out.frozen 2
  have v3 := VY2.out.frozen 3
  have VY20 : Hid (Blk ((Y2.setCell ⟨gv, 2, none⟩ (.int .u64 x1)).setCell ⟨gv, 3, none⟩ (.int .u64 x2)) gv 102 [.int .i64 p, .int .i64 q, .int .u64 x1, .int .u64 x2, .int .u64 f, .int .u64 g, .int .u64 h, .int .u64 i]) := Lib.hid ((VY2.out.set_ 2 (.int .u64 x1)).set_ 3 (.int .u64 x2))
  have PY20 : Hid (Blk ((Y2.setCell ⟨gv, 2, none⟩ (.int .u64 x1)).setCell ⟨gv, 3, none⟩ (.int .u64 x2)) gp 25 [.slice sa sl sc, .slice (some ⟨be, oe, none⟩) el ec]) := Lib.hid ((PY2.out.far (p := ⟨gv, 2, none⟩) (PY2.out.ne_ VY2.out (by decide)) _).far (p := ⟨gv, 3, none⟩) (PY2.out.ne_ VY2.out (by decide)) _)
  have RY20 : Hid (Blk ((Y2.setCell ⟨gv, 2, none⟩ (.int .u64 x1)).setCell ⟨gv, 3, none⟩ (.int .u64 x2)) gr 25 [.slice none 0 0, .slice none 0 0]) := Lib.hid ((RY2.out.far (p := ⟨gv, 2, none⟩) (RY2.out.ne_ VY2.out (by decide)) _).far (p := ⟨gv, 3, none⟩) (RY2.out.ne_ VY2.out (by decide)) _)
  have BY20 : Hid (Below w.heap.size w ((Y2.setCell ⟨gv, 2, none⟩ (.int .u64 x1)).setCell ⟨gv, 3, none⟩ (.int .u64 x2))) := Lib.hid ((BY2.out.setCell (p := ⟨gv, 2, none⟩) HGV.out _).setCell (p := ⟨gv, 3, none⟩) HGV.out _)
  clear BY2 EY2 CY2 PY2 RY2 VY2
  go_wp2_with fail
  clear v0 v1 v2 v3
  generalize ((Y2.setCell ⟨gv, 2, none⟩ (.int .u64 x1)).setCell ⟨gv, 3, none⟩ (.int .u64 x2)) = Y20 at VY20 PY20 RY20 BY20 ⊢
  have hBz : Below Y20.heap.size Y20 Y20.drew := below_drewN (Below.refl _ _) 1
  have BX0 : Hid (Below w.heap.size w Y20.drew) := Lib.hid (BY20.out.trans (hBz.mono BY20.out.size))
  have PX0 : Hid (Blk Y20.drew gp 25 [.slice sa sl sc, .slice (some ⟨be, oe, none⟩) el ec]) := Lib.hid (PY20.out.below hBz PY20.out.lt)
  have RX0 : Hid (Blk Y20.drew gr 25 [.slice none 0 0, .slice none 0 0]) := Lib.hid (RY20.out.below hBz RY20.out.lt)
  have VX0 : Hid (Blk Y20.drew gv 102 [.int .i64 p, .int .i64 q, .int .u64 x1, .int .u64 x2, .int .u64 f, .int .u64 g, .int .u64 h, .int .u64 i]) := Lib.hid (VY20.out.below hBz VY20.out.lt)
  clear hBz
  refine wp_region_held_drew (S := fun w' => Blk w' gp 25 [.slice sa sl sc, .slice (some ⟨be, oe, none⟩) el ec]) (by kernel_rfl) (PX0.out) (fun hHeld => ?_)
  generalize Y20.drew = X0 at hHeld BX0 PX0 RX0 VX0 ⊢
  refine wpAnyH_take (i := 0) (v := .pointer (some ⟨gp, 0, none⟩)) rfl (by kernel_rfl) (by kernel_rfl) (by kernel_rfl) (fun _ _ _ h => h) (Or.inl ⟨by rfl, by intro w' h; go_simp⟩) hHeld ?_
  show wpAnyH _ _ _ _ _ _ _ (Act.put _ (some 91) _) _
  simp only [Act.put, List.setIfInBounds_toArray, List.set_cons_zero, List.set_cons_succ]
  refine wpAnyH_take (i := 1) (v := .slice sa sl sc) rfl (by kernel_rfl) (by kernel_rfl) (by kernel_rfl) (fun _ _ _ h => h) (Or.inl ⟨by rfl, by intro w' h; have k0 := Blk.cell h 0; simp only [List.getElem?_cons_zero] at k0; go_simp⟩) hHeld ?_
  show wpAnyH _ _ _ _ _ _ _ (Act.put _ (some 92) _) _
  simp only [Act.put, List.setIfInBounds_toArray, List.set_cons_zero, List.set_cons_succ]
  refine wpAnyH_take (i := 3) (v := .pointer (some ⟨gp, 1, none⟩)) rfl (by kernel_rfl) (by kernel_rfl) (by kernel_rfl) (fun _ _ _ h => h) (Or.inl ⟨by rfl, by intro w' h; go_simp⟩) hHeld ?_
  show wpAnyH _ _ _ _ _ _ _ (Act.put _ (some 94) _) _
  simp only [Act.put, List.setIfInBounds_toArray, List.set_cons_zero, List.set_cons_succ]
  refine wpAnyH_take (i := 4) (v := .slice (some ⟨be, oe, none⟩) el ec) rfl (by kernel_rfl) (by kernel_rfl) (by kernel_rfl) (fun _ _ _ h => h) (Or.inl ⟨by rfl, by intro w' h; have k1 := Blk.cell h 1; simp only [List.getElem?_cons_zero, List.getElem?_cons_succ] at k1; go_simp⟩) hHeld ?_
  show wpAnyH _ _ _ _ _ _ _ (Act.put _ (some 95) _) _
  simp only [Act.put, List.setIfInBounds_toArray, List.set_cons_zero, List.set_cons_succ]
  refine wpAnyH_ready (rs := [2, 7]) (by kernel_rfl) (by simp) ?_
  refine AllReadyH.cons rfl (fun K hK => ?_) (AllReadyH.cons rfl (fun K hK => ?_) AllReadyH.nil)
  · refine step_lay23 rfl rfl ?_
    intro X1 gE hB hE hgX
    have hgE : w.heap.size ≤ gE := Nat.le_trans BX0.out.size hgX
    have hVE : some gv ≠ some gE := fun e => by injection e with e; have := VX0.out.lt; omega
    have BX1 : Hid (Below w.heap.size w X1) := Lib.hid (BX0.out.trans (hB.mono BX0.out.size))
    have PX1 : Hid (Blk X1 gp 25 [.slice sa sl sc, .slice (some ⟨be, oe, none⟩) el ec]) := Lib.hid (PX0.out.below hB PX0.out.lt)
    have RX1 : Hid (Blk X1 gr 25 [.slice none 0 0, .slice none 0 0]) := Lib.hid (RX0.out.below hB RX0.out.lt)
    have VX1 : Hid (Blk X1 gv 102 [.int .i64 p, .int .i64 q, .int .u64 x1, .int .u64 x2, .int .u64 f, .int .u64 g, .int .u64 h, .int .u64 i]) := Lib.hid (VX0.out.below hB VX0.out.lt)
    have EX1 : Hid (Blk X1 gE 102 []) := Lib.hid (hE)
    clear BX0 PX0 RX0 VX0 hB hE hgX
    refine hK.out _ _ (PX1.out) (fun hHeld => ?_)
    clear hK K
    show wpAnyH _ _ _ _ _ _ _ (Act.put _ (some 93) _) _
    simp only [Act.put, List.setIfInBounds_toArray, List.set_cons_zero, List.set_cons_succ]
    refine wpAnyH_ready (rs := [5, 7]) (by kernel_rfl) (by simp) ?_
    refine AllReadyH.cons rfl (fun K hK => ?_) (AllReadyH.cons rfl (fun K hK => ?_) AllReadyH.nil)
    · refine step_app23 rfl (.tmp 93) (.tmp 95) rfl gE rfl EX1.out _ el ec rfl es HEL.out (HE0.out.below BX1.out) hel2 ?_
      intro X2 gn cap sp hO hA hat
      have hgO : w.heap.size ≤ gE := hgE
      have hPO : some gp ≠ some gE := fun e => PX1.out.ne_ EX1.out (by decide) (by injection e)
      have hRO : some gr ≠ some gE := fun e => RX1.out.ne_ EX1.out (by decide) (by injection e)
      have hVO := hVE
      have hgn : w.heap.size ≤ gn := by have := BX1.out.size; omega
      have BX2 : Hid (Below w.heap.size w X2) := Lib.hid (up_grown BX1.out hO hgO BX1.out.size)
      have PX2 : Hid (Blk X2 gp 25 [.slice sa sl sc, .slice (some ⟨be, oe, none⟩) el ec]) := Lib.hid (PX1.out.grown hO hPO)
      have RX2 : Hid (Blk X2 gr 25 [.slice none 0 0, .slice none 0 0]) := Lib.hid (RX1.out.grown hO hRO)
      have VX2 : Hid (Blk X2 gv 102 [.int .i64 p, .int .i64 q, .int .u64 x1, .int .u64 x2, .int .u64 f, .int .u64 g, .int .u64 h, .int .u64 i]) := Lib.hid (VX1.out.grown hO hVO)
      have AX2 : Hid (Blk X2 gn 102 (eflat es ++ sp)) := Lib.hid (hA)
      clear BX1 PX1 RX1 VX1 hO hA
      refine hK.out _ _ (PX2.out) (fun hHeld => ?_)
      clear hK K
      show wpAnyH _ _ _ _ _ _ _ (Act.put _ (some 96) _) _
      simp only [Act.put, List.setIfInBounds_toArray, List.set_cons_zero, List.set_cons_succ]
      refine wpAnyH_take (i := 6) (v := .agg #[.slice sa sl sc, .slice (some ⟨gn, 0, none⟩) el cap]) rfl (by kernel_rfl) (by kernel_rfl) (by kernel_rfl) (fun _ _ _ h => h) (Or.inl ⟨by rfl, by intro w' h; kernel_rfl⟩) hHeld ?_
      show wpAnyH _ _ _ _ _ _ _ (Act.put _ (some 97) _) _
      simp only [Act.put, List.setIfInBounds_toArray, List.set_cons_zero, List.set_cons_succ]
      refine wpAnyH_ready (rs := [7]) (by kernel_rfl) (by simp) ?_
      refine AllReadyH.cons rfl (fun K hK => ?_) AllReadyH.nil
      refine step_new25 rfl rfl ?_
      intro X3 gt hB hT hgX
      have hgt : w.heap.size ≤ gt := Nat.le_trans BX2.out.size hgX
      have hPT : some gp ≠ some gt := fun e => by injection e with e; have := PX2.out.lt; omega
      have hRT : some gr ≠ some gt := fun e => by injection e with e; have := RX2.out.lt; omega
      have BX3 : Hid (Below w.heap.size w X3) := Lib.hid (BX2.out.trans (hB.mono BX2.out.size))
      have PX3 : Hid (Blk X3 gp 25 [.slice sa sl sc, .slice (some ⟨be, oe, none⟩) el ec]) := Lib.hid (PX2.out.below hB PX2.out.lt)
      have RX3 : Hid (Blk X3 gr 25 [.slice none 0 0, .slice none 0 0]) := Lib.hid (RX2.out.below hB RX2.out.lt)
      have VX3 : Hid (Blk X3 gv 102 [.int .i64 p, .int .i64 q, .int .u64 x1, .int .u64 x2, .int .u64 f, .int .u64 g, .int .u64 h, .int .u64 i]) := Lib.hid (VX2.out.below hB VX2.out.lt)
      have AX3 : Hid (Blk X3 gn 102 (eflat es ++ sp)) := Lib.hid (AX2.out.below hB AX2.out.lt)
      have TX3 : Hid (Blk X3 gt 25 [.slice none 0 0, .slice none 0 0]) := Lib.hid (hT)
      clear BX2 PX2 RX2 VX2 AX2 hB hT hgX
      refine hK.out _ _ (PX3.out) (fun hHeld => ?_)
      clear hK K
      show wpAnyH _ _ _ _ _ _ _ (Act.put _ (some 16) _) _
      simp only [Act.put, List.setIfInBounds_toArray, List.set_cons_zero, List.set_cons_succ]
      refine wpAnyH_ready (rs := [8]) (by kernel_rfl) (by simp) ?_
      refine AllReadyH.cons rfl (fun K hK => ?_) AllReadyH.nil
      refine step_store25 rfl (.tmp 16) (.tmp 97) rfl gt _ _ sa (some ⟨gn, 0, none⟩) sl sc el cap rfl rfl TX3.out ?_
      intro X4 hT hO
      have hgO := hgt
      have hPO := hPT
      have hRO := hRT
      have hVO : some gv ≠ some gt := fun e => VX3.out.ne_ TX3.out (by decide) (by injection e)
      have hAO : some gn ≠ some gt := fun e => AX3.out.ne_ TX3.out (by decide) (by injection e)
      have BX4 : Hid (Below w.heap.size w X4) := Lib.hid (up_grown BX3.out hO hgO BX3.out.size)
      have PX4 : Hid (Blk X4 gp 25 [.slice sa sl sc, .slice (some ⟨be, oe, none⟩) el ec]) := Lib.hid (PX3.out.grown hO hPO)
      have RX4 : Hid (Blk X4 gr 25 [.slice none 0 0, .slice none 0 0]) := Lib.hid (RX3.out.grown hO hRO)
      have VX4 : Hid (Blk X4 gv 102 [.int .i64 p, .int .i64 q, .int .u64 x1, .int .u64 x2, .int .u64 f, .int .u64 g, .int .u64 h, .int .u64 i]) := Lib.hid (VX3.out.grown hO hVO)
      have AX4 : Hid (Blk X4 gn 102 (eflat es ++ sp)) := Lib.hid (AX3.out.grown hO hAO)
      have TX4 : Hid (Blk X4 gt 25 [.slice sa sl sc, .slice (some ⟨gn, 0, none⟩) el cap]) := Lib.hid (hT)
      clear BX3 PX3 RX3 VX3 AX3 hO hT
      refine hK.out _ _ (PX4.out) (fun hHeld => ?_)
      clear hK K
      show wpAnyH _ _ _ _ _ _ _ (Act.put _ none _) _
      simp only [Act.put]
      refine wpAnyH_done (by kernel_rfl) ?_ _
      clear hHeld
      have c0 := TX4.out.cell 1
      simp only [List.getElem?_cons_zero, List.getElem?_cons_succ] at c0
      have y0 : X4.cell? ⟨gv, 0, none⟩ = some (.int .i64 p) := VX4.out.cell 0
      have y1 : X4.cell? ⟨gv, 1, none⟩ = some (.int .i64 q) := VX4.out.cell 1
      have y2 : X4.cell? ⟨gv, 2, none⟩ = some (.int .u64 x1) := VX4.out.cell 2
      have y3 : X4.cell? ⟨gv, 3, none⟩ = some (.int .u64 x2) := VX4.out.cell 3
      have y4 : X4.cell? ⟨gv, 4, none⟩ = some (.int .u64 f) := VX4.out.cell 4
      have y5 : X4.cell? ⟨gv, 5, none⟩ = some (.int .u64 g) := VX4.out.cell 5
      have y6 : X4.cell? ⟨gv, 6, none⟩ = some (.int .u64 h) := VX4.out.cell 6
      have y7 : X4.cell? ⟨gv, 7, none⟩ = some (.int .u64 i) := VX4.out.cell 7
      have z0 : X4.cell? ⟨gn, k * 8, none⟩ = some (.int .i64 p) := ed_cells AX4.out HKK.out 0 _ (by rw [HZ.out]; rfl)
      have q0 : X4.frozen? ⟨gn, k * 8, none⟩ = false := AX4.out.frozen _
      have z1 : X4.cell? ⟨gn, k * 8 + 1, none⟩ = some (.int .i64 q) := ed_cells AX4.out HKK.out 1 _ (by rw [HZ.out]; rfl)
      have q1 : X4.frozen? ⟨gn, k * 8 + 1, none⟩ = false := AX4.out.frozen _
      have z2 : X4.cell? ⟨gn, k * 8 + 2, none⟩ = some (.int .u64 c) := ed_cells AX4.out HKK.out 2 _ (by rw [HZ.out]; rfl)
      have q2 : X4.frozen? ⟨gn, k * 8 + 2, none⟩ = false := AX4.out.frozen _
      have z3 : X4.cell? ⟨gn, k * 8 + 3, none⟩ = some (.int .u64 d) := ed_cells AX4.out HKK.out 3 _ (by rw [HZ.out]; rfl)
      have q3 : X4.frozen? ⟨gn, k * 8 + 3, none⟩ = false := AX4.out.frozen _
      have z4 : X4.cell? ⟨gn, k * 8 + 4, none⟩ = some (.int .u64 f) := ed_cells AX4.out HKK.out 4 _ (by rw [HZ.out]; rfl)
      have q4 : X4.frozen? ⟨gn, k * 8 + 4, none⟩ = false := AX4.out.frozen _
      have z5 : X4.cell? ⟨gn, k * 8 + 5, none⟩ = some (.int .u64 g) := ed_cells AX4.out HKK.out 5 _ (by rw [HZ.out]; rfl)
      have q5 : X4.frozen? ⟨gn, k * 8 + 5, none⟩ = false := AX4.out.frozen _
      have z6 : X4.cell? ⟨gn, k * 8 + 6, none⟩ = some (.int .u64 h) := ed_cells AX4.out HKK.out 6 _ (by rw [HZ.out]; rfl)
      have q6 : X4.frozen? ⟨gn, k * 8 + 6, none⟩ = false := AX4.out.frozen _
      have z7 : X4.cell? ⟨gn, k * 8 + 7, none⟩ = some (.int .u64 i) := ed_cells AX4.out HKK.out 7 _ (by rw [HZ.out]; rfl)
      have q7 : X4.frozen? ⟨gn, k * 8 + 7, none⟩ = false := AX4.out.frozen _
      have hTA := TX4.out.ne_ AX4.out (by decide)
      have hRA := RX4.out.ne_ AX4.out (by decide)
      have AF : Hid (Blk ((((((((X4.setCell ⟨gn, k * 8, none⟩ (.int .i64 p)).setCell ⟨gn, k * 8 + 1, none⟩ (.int .i64 q)).setCell ⟨gn, k * 8 + 2, none⟩ (.int .u64 x1)).setCell ⟨gn, k * 8 + 3, none⟩ (.int .u64 x2)).setCell ⟨gn, k * 8 + 4, none⟩ (.int .u64 f)).setCell ⟨gn, k * 8 + 5, none⟩ (.int .u64 g)).setCell ⟨gn, k * 8 + 6, none⟩ (.int .u64 h)).setCell ⟨gn, k * 8 + 7, none⟩ (.int .u64 i)) gn 102 (eflat (es.set k ⟨p, q, x1, x2, f, g, h, i⟩) ++ sp)) := Lib.hid (row8 AX4.out HKK.out p q x1 x2 f g h i)
      have TF : Hid (Blk ((((((((X4.setCell ⟨gn, k * 8, none⟩ (.int .i64 p)).setCell ⟨gn, k * 8 + 1, none⟩ (.int .i64 q)).setCell ⟨gn, k * 8 + 2, none⟩ (.int .u64 x1)).setCell ⟨gn, k * 8 + 3, none⟩ (.int .u64 x2)).setCell ⟨gn, k * 8 + 4, none⟩ (.int .u64 f)).setCell ⟨gn, k * 8 + 5, none⟩ (.int .u64 g)).setCell ⟨gn, k * 8 + 6, none⟩ (.int .u64 h)).setCell ⟨gn, k * 8 + 7, none⟩ (.int .u64 i)) gt 25 [.slice sa sl sc, .slice (some ⟨gn, 0, none⟩) el cap]) := Lib.hid (((((((((TX4.out.far (p := ⟨gn, k * 8, none⟩) hTA _).far (p := ⟨gn, k * 8 + 1, none⟩) hTA _).far (p := ⟨gn, k * 8 + 2, none⟩) hTA _).far (p := ⟨gn, k * 8 + 3, none⟩) hTA _).far (p := ⟨gn, k * 8 + 4, none⟩) hTA _).far (p := ⟨gn, k * 8 + 5, none⟩) hTA _).far (p := ⟨gn, k * 8 + 6, none⟩) hTA _).far (p := ⟨gn, k * 8 + 7, none⟩) hTA _))
      have RF : Hid (Blk ((((((((X4.setCell ⟨gn, k * 8, none⟩ (.int .i64 p)).setCell ⟨gn, k * 8 + 1, none⟩ (.int .i64 q)).setCell ⟨gn, k * 8 + 2, none⟩ (.int .u64 x1)).setCell ⟨gn, k * 8 + 3, none⟩ (.int .u64 x2)).setCell ⟨gn, k * 8 + 4, none⟩ (.int .u64 f)).setCell ⟨gn, k * 8 + 5, none⟩ (.int .u64 g)).setCell ⟨gn, k * 8 + 6, none⟩ (.int .u64 h)).setCell ⟨gn, k * 8 + 7, none⟩ (.int .u64 i)) gr 25 [.slice none 0 0, .slice none 0 0]) := Lib.hid (((((((((RX4.out.far (p := ⟨gn, k * 8, none⟩) hRA _).far (p := ⟨gn, k * 8 + 1, none⟩) hRA _).far (p := ⟨gn, k * 8 + 2, none⟩) hRA _).far (p := ⟨gn, k * 8 + 3, none⟩) hRA _).far (p := ⟨gn, k * 8 + 4, none⟩) hRA _).far (p := ⟨gn, k * 8 + 5, none⟩) hRA _).far (p := ⟨gn, k * 8 + 6, none⟩) hRA _).far (p := ⟨gn, k * 8 + 7, none⟩) hRA _))
      have BF : Hid (Below w.heap.size w ((((((((X4.setCell ⟨gn, k * 8, none⟩ (.int .i64 p)).setCell ⟨gn, k * 8 + 1, none⟩ (.int .i64 q)).setCell ⟨gn, k * 8 + 2, none⟩ (.int .u64 x1)).setCell ⟨gn, k * 8 + 3, none⟩ (.int .u64 x2)).setCell ⟨gn, k * 8 + 4, none⟩ (.int .u64 f)).setCell ⟨gn, k * 8 + 5, none⟩ (.int .u64 g)).setCell ⟨gn, k * 8 + 6, none⟩ (.int .u64 h)).setCell ⟨gn, k * 8 + 7, none⟩ (.int .u64 i))) := Lib.hid (((((((((BX4.out.setCell (p := ⟨gn, k * 8, none⟩) hgn _).setCell (p := ⟨gn, k * 8 + 1, none⟩) hgn _).setCell (p := ⟨gn, k * 8 + 2, none⟩) hgn _).setCell (p := ⟨gn, k * 8 + 3, none⟩) hgn _).setCell (p := ⟨gn, k * 8 + 4, none⟩) hgn _).setCell (p := ⟨gn, k * 8 + 5, none⟩) hgn _).setCell (p := ⟨gn, k * 8 + 6, none⟩) hgn _).setCell (p := ⟨gn, k * 8 + 7, none⟩) hgn _))
      have r0 := RF.out.cell 0
      have r1 := RF.out.cell 1
      simp only [List.getElem?_cons_zero, List.getElem?_cons_succ] at r0 r1
      have r2 := RF.out.frozen 0
      have r3 := RF.out.frozen 1
      have t0 := TF.out.cell 0
      have t1 := TF.out.cell 1
      simp only [List.getElem?_cons_zero, List.getElem?_cons_succ] at t0 t1
      go_wp2_with fail
      have hGR : gn ≠ gr := AF.out.ne_ RF.out (by decide)
      exact bodyPost_ret (resultsR Try.results28 _ _ gr 25 sa (some ⟨gn, 0, none⟩) sl el sc cap _ rfl rfl (Blk.set_ (Blk.set_ RF.out 0 (.slice sa sl sc)) 1 (.slice (some ⟨gn, 0, none⟩) el cap))) rfl ⟨(BF.out.setCell (p := ⟨gr, 0, none⟩) hgr _).setCell (p := ⟨gr, 1, none⟩) hgr _, .inl ⟨HX.out, some ⟨gn, 0, none⟩, cap, rfl, (by rw [HSN.out]; exact row_of ((AF.out.far (p := ⟨gr, 0, none⟩) hGR _).far (p := ⟨gr, 1, none⟩) hGR _)), fun h => by cases h⟩⟩
    · refine step_new25 rfl rfl ?_
      intro X2 gt hB hT hgX
      have hgt : w.heap.size ≤ gt := Nat.le_trans BX1.out.size hgX
      have hPT : some gp ≠ some gt := fun e => by injection e with e; have := PX1.out.lt; omega
      have hRT : some gr ≠ some gt := fun e => by injection e with e; have := RX1.out.lt; omega
      have BX2 : Hid (Below w.heap.size w X2) := Lib.hid (BX1.out.trans (hB.mono BX1.out.size))
      have PX2 : Hid (Blk X2 gp 25 [.slice sa sl sc, .slice (some ⟨be, oe, none⟩) el ec]) := Lib.hid (PX1.out.below hB PX1.out.lt)
      have RX2 : Hid (Blk X2 gr 25 [.slice none 0 0, .slice none 0 0]) := Lib.hid (RX1.out.below hB RX1.out.lt)
      have VX2 : Hid (Blk X2 gv 102 [.int .i64 p, .int .i64 q, .int .u64 x1, .int .u64 x2, .int .u64 f, .int .u64 g, .int .u64 h, .int .u64 i]) := Lib.hid (VX1.out.below hB VX1.out.lt)
      have EX2 : Hid (Blk X2 gE 102 []) := Lib.hid (EX1.out.below hB EX1.out.lt)
      have TX2 : Hid (Blk X2 gt 25 [.slice none 0 0, .slice none 0 0]) := Lib.hid (hT)
      clear BX1 PX1 RX1 VX1 EX1 hB hT hgX
      refine hK.out _ _ (PX2.out) (fun hHeld => ?_)
      clear hK K
      show wpAnyH _ _ _ _ _ _ _ (Act.put _ (some 16) _) _
      simp only [Act.put, List.setIfInBounds_toArray, List.set_cons_zero, List.set_cons_succ]
      refine wpAnyH_ready (rs := [5]) (by kernel_rfl) (by simp) ?_
      refine AllReadyH.cons rfl (fun K hK => ?_) AllReadyH.nil
      refine step_app23 rfl (.tmp 93) (.tmp 95) rfl gE rfl EX2.out _ el ec rfl es HEL.out (HE0.out.below BX2.out) hel2 ?_
      intro X3 gn cap sp hO hA hat
      have hgO : w.heap.size ≤ gE := hgE
      have hPO : some gp ≠ some gE := fun e => PX2.out.ne_ EX2.out (by decide) (by injection e)
      have hRO : some gr ≠ some gE := fun e => RX2.out.ne_ EX2.out (by decide) (by injection e)
      have hVO := hVE
      have hgn : w.heap.size ≤ gn := by have := BX2.out.size; omega
      have hTO : some gt ≠ some gE := fun e => TX2.out.ne_ EX2.out (by decide) (by injection e)
      have BX3 : Hid (Below w.heap.size w X3) := Lib.hid (up_grown BX2.out hO hgO BX2.out.size)
      have PX3 : Hid (Blk X3 gp 25 [.slice sa sl sc, .slice (some ⟨be, oe, none⟩) el ec]) := Lib.hid (PX2.out.grown hO hPO)
      have RX3 : Hid (Blk X3 gr 25 [.slice none 0 0, .slice none 0 0]) := Lib.hid (RX2.out.grown hO hRO)
      have VX3 : Hid (Blk X3 gv 102 [.int .i64 p, .int .i64 q, .int .u64 x1, .int .u64 x2, .int .u64 f, .int .u64 g, .int .u64 h, .int .u64 i]) := Lib.hid (VX2.out.grown hO hVO)
      have TX3 : Hid (Blk X3 gt 25 [.slice none 0 0, .slice none 0 0]) := Lib.hid (TX2.out.grown hO hTO)
      have AX3 : Hid (Blk X3 gn 102 (eflat es ++ sp)) := Lib.hid (hA)
      clear BX2 PX2 RX2 VX2 TX2 hO hA
      refine hK.out _ _ (PX3.out) (fun hHeld => ?_)
      clear hK K
      show wpAnyH _ _ _ _ _ _ _ (Act.put _ (some 96) _) _
      simp only [Act.put, List.setIfInBounds_toArray, List.set_cons_zero, List.set_cons_succ]
      refine wpAnyH_take (i := 6) (v := .agg #[.slice sa sl sc, .slice (some ⟨gn, 0, none⟩) el cap]) rfl (by kernel_rfl) (by kernel_rfl) (by kernel_rfl) (fun _ _ _ h => h) (Or.inl ⟨by rfl, by intro w' h; kernel_rfl⟩) hHeld ?_
      show wpAnyH _ _ _ _ _ _ _ (Act.put _ (some 97) _) _
      simp only [Act.put, List.setIfInBounds_toArray, List.set_cons_zero, List.set_cons_succ]
      refine wpAnyH_ready (rs := [8]) (by kernel_rfl) (by simp) ?_
      refine AllReadyH.cons rfl (fun K hK => ?_) AllReadyH.nil
      refine step_store25 rfl (.tmp 16) (.tmp 97) rfl gt _ _ sa (some ⟨gn, 0, none⟩) sl sc el cap rfl rfl TX3.out ?_
      intro X4 hT hO
      have hgO := hgt
      have hPO := hPT
      have hRO := hRT
      have hVO : some gv ≠ some gt := fun e => VX3.out.ne_ TX3.out (by decide) (by injection e)
      have hAO : some gn ≠ some gt := fun e => AX3.out.ne_ TX3.out (by decide) (by injection e)
      have BX4 : Hid (Below w.heap.size w X4) := Lib.hid (up_grown BX3.out hO hgO BX3.out.size)
      have PX4 : Hid (Blk X4 gp 25 [.slice sa sl sc, .slice (some ⟨be, oe, none⟩) el ec]) := Lib.hid (PX3.out.grown hO hPO)
      have RX4 : Hid (Blk X4 gr 25 [.slice none 0 0, .slice none 0 0]) := Lib.hid (RX3.out.grown hO hRO)
      have VX4 : Hid (Blk X4 gv 102 [.int .i64 p, .int .i64 q, .int .u64 x1, .int .u64 x2, .int .u64 f, .int .u64 g, .int .u64 h, .int .u64 i]) := Lib.hid (VX3.out.grown hO hVO)
      have AX4 : Hid (Blk X4 gn 102 (eflat es ++ sp)) := Lib.hid (AX3.out.grown hO hAO)
      have TX4 : Hid (Blk X4 gt 25 [.slice sa sl sc, .slice (some ⟨gn, 0, none⟩) el cap]) := Lib.hid (hT)
      clear BX3 PX3 RX3 VX3 AX3 hO hT
      refine hK.out _ _ (PX4.out) (fun hHeld => ?_)
      clear hK K
      show wpAnyH _ _ _ _ _ _ _ (Act.put _ none _) _
      simp only [Act.put]
      refine wpAnyH_done (by kernel_rfl) ?_ _
      clear hHeld
      have c0 := TX4.out.cell 1
      simp only [List.getElem?_cons_zero, List.getElem?_cons_succ] at c0
      have y0 : X4.cell? ⟨gv, 0, none⟩ = some (.int .i64 p) := VX4.out.cell 0
      have y1 : X4.cell? ⟨gv, 1, none⟩ = some (.int .i64 q) := VX4.out.cell 1
      have y2 : X4.cell? ⟨gv, 2, none⟩ = some (.int .u64 x1) := VX4.out.cell 2
      have y3 : X4.cell? ⟨gv, 3, none⟩ = some (.int .u64 x2) := VX4.out.cell 3
      have y4 : X4.cell? ⟨gv, 4, none⟩ = some (.int .u64 f) := VX4.out.cell 4
      have y5 : X4.cell? ⟨gv, 5, none⟩ = some (.int .u64 g) := VX4.out.cell 5
      have y6 : X4.cell? ⟨gv, 6, none⟩ = some (.int .u64 h) := VX4.out.cell 6
      have y7 : X4.cell? ⟨gv, 7, none⟩ = some (.int .u64 i) := VX4.out.cell 7
      have z0 : X4.cell? ⟨gn, k * 8, none⟩ = some (.int .i64 p) := ed_cells AX4.out HKK.out 0 _ (by rw [HZ.out]; rfl)
      have q0 : X4.frozen? ⟨gn, k * 8, none⟩ = false := AX4.out.frozen _
      have z1 : X4.cell? ⟨gn, k * 8 + 1, none⟩ = some (.int .i64 q) := ed_cells AX4.out HKK.out 1 _ (by rw [HZ.out]; rfl)
      have q1 : X4.frozen? ⟨gn, k * 8 + 1, none⟩ = false := AX4.out.frozen _
      have z2 : X4.cell? ⟨gn, k * 8 + 2, none⟩ = some (.int .u64 c) := ed_cells AX4.out HKK.out 2 _ (by rw [HZ.out]; rfl)
      have q2 : X4.frozen? ⟨gn, k * 8 + 2, none⟩ = false := AX4.out.frozen _
      have z3 : X4.cell? ⟨gn, k * 8 + 3, none⟩ = some (.int .u64 d) := ed_cells AX4.out HKK.out 3 _ (by rw [HZ.out]; rfl)
      have q3 : X4.frozen? ⟨gn, k * 8 + 3, none⟩ = false := AX4.out.frozen _
      have z4 : X4.cell? ⟨gn, k * 8 + 4, none⟩ = some (.int .u64 f) := ed_cells AX4.out HKK.out 4 _ (by rw [HZ.out]; rfl)
      have q4 : X4.frozen? ⟨gn, k * 8 + 4, none⟩ = false := AX4.out.frozen _
      have z5 : X4.cell? ⟨gn, k * 8 + 5, none⟩ = some (.int .u64 g) := ed_cells AX4.out HKK.out 5 _ (by rw [HZ.out]; rfl)
      have q5 : X4.frozen? ⟨gn, k * 8 + 5, none⟩ = false := AX4.out.frozen _
      have z6 : X4.cell? ⟨gn, k * 8 + 6, none⟩ = some (.int .u64 h) := ed_cells AX4.out HKK.out 6 _ (by rw [HZ.out]; rfl)
      have q6 : X4.frozen? ⟨gn, k * 8 + 6, none⟩ = false := AX4.out.frozen _
      have z7 : X4.cell? ⟨gn, k * 8 + 7, none⟩ = some (.int .u64 i) := ed_cells AX4.out HKK.out 7 _ (by rw [HZ.out]; rfl)
      have q7 : X4.frozen? ⟨gn, k * 8 + 7, none⟩ = false := AX4.out.frozen _
      have hTA := TX4.out.ne_ AX4.out (by decide)
      have hRA := RX4.out.ne_ AX4.out (by decide)
      have AF : Hid (Blk ((((((((X4.setCell ⟨gn, k * 8, none⟩ (.int .i64 p)).setCell ⟨gn, k * 8 + 1, none⟩ (.int .i64 q)).setCell ⟨gn, k * 8 + 2, none⟩ (.int .u64 x1)).setCell ⟨gn, k * 8 + 3, none⟩ (.int .u64 x2)).setCell ⟨gn, k * 8 + 4, none⟩ (.int .u64 f)).setCell ⟨gn, k * 8 + 5, none⟩ (.int .u64 g)).setCell ⟨gn, k * 8 + 6, none⟩ (.int .u64 h)).setCell ⟨gn, k * 8 + 7, none⟩ (.int .u64 i)) gn 102 (eflat (es.set k ⟨p, q, x1, x2, f, g, h, i⟩) ++ sp)) := Lib.hid (row8 AX4.out HKK.out p q x1 x2 f g h i)
      have TF : Hid (Blk ((((((((X4.setCell ⟨gn, k * 8, none⟩ (.int .i64 p)).setCell ⟨gn, k * 8 + 1, none⟩ (.int .i64 q)).setCell ⟨gn, k * 8 + 2, none⟩ (.int .u64 x1)).setCell ⟨gn, k * 8 + 3, none⟩ (.int .u64 x2)).setCell ⟨gn, k * 8 + 4, none⟩ (.int .u64 f)).setCell ⟨gn, k * 8 + 5, none⟩ (.int .u64 g)).setCell ⟨gn, k * 8 + 6, none⟩ (.int .u64 h)).setCell ⟨gn, k * 8 + 7, none⟩ (.int .u64 i)) gt 25 [.slice sa sl sc, .slice (some ⟨gn, 0, none⟩) el cap]) := Lib.hid (((((((((TX4.out.far (p := ⟨gn, k * 8, none⟩) hTA _).far (p := ⟨gn, k * 8 + 1, none⟩) hTA _).far (p := ⟨gn, k * 8 + 2, none⟩) hTA _).far (p := ⟨gn, k * 8 + 3, none⟩) hTA _).far (p := ⟨gn, k * 8 + 4, none⟩) hTA _).far (p := ⟨gn, k * 8 + 5, none⟩) hTA _).far (p := ⟨gn, k * 8 + 6, none⟩) hTA _).far (p := ⟨gn, k * 8 + 7, none⟩) hTA _))
      have RF : Hid (Blk ((((((((X4.setCell ⟨gn, k * 8, none⟩ (.int .i64 p)).setCell ⟨gn, k * 8 + 1, none⟩ (.int .i64 q)).setCell ⟨gn, k * 8 + 2, none⟩ (.int .u64 x1)).setCell ⟨gn, k * 8 + 3, none⟩ (.int .u64 x2)).setCell ⟨gn, k * 8 + 4, none⟩ (.int .u64 f)).setCell ⟨gn, k * 8 + 5, none⟩ (.int .u64 g)).setCell ⟨gn, k * 8 + 6, none⟩ (.int .u64 h)).setCell ⟨gn, k * 8 + 7, none⟩ (.int .u64 i)) gr 25 [.slice none 0 0, .slice none 0 0]) := Lib.hid (((((((((RX4.out.far (p := ⟨gn, k * 8, none⟩) hRA _).far (p := ⟨gn, k * 8 + 1, none⟩) hRA _).far (p := ⟨gn, k * 8 + 2, none⟩) hRA _).far (p := ⟨gn, k * 8 + 3, none⟩) hRA _).far (p := ⟨gn, k * 8 + 4, none⟩) hRA _).far (p := ⟨gn, k * 8 + 5, none⟩) hRA _).far (p := ⟨gn, k * 8 + 6, none⟩) hRA _).far (p := ⟨gn, k * 8 + 7, none⟩) hRA _))
      have BF : Hid (Below w.heap.size w ((((((((X4.setCell ⟨gn, k * 8, none⟩ (.int .i64 p)).setCell ⟨gn, k * 8 + 1, none⟩ (.int .i64 q)).setCell ⟨gn, k * 8 + 2, none⟩ (.int .u64 x1)).setCell ⟨gn, k * 8 + 3, none⟩ (.int .u64 x2)).setCell ⟨gn, k * 8 + 4, none⟩ (.int .u64 f)).setCell ⟨gn, k * 8 + 5, none⟩ (.int .u64 g)).setCell ⟨gn, k * 8 + 6, none⟩ (.int .u64 h)).setCell ⟨gn, k * 8 + 7, none⟩ (.int .u64 i))) := Lib.hid (((((((((BX4.out.setCell (p := ⟨gn, k * 8, none⟩) hgn _).setCell (p := ⟨gn, k * 8 + 1, none⟩) hgn _).setCell (p := ⟨gn, k * 8 + 2, none⟩) hgn _).setCell (p := ⟨gn, k * 8 + 3, none⟩) hgn _).setCell (p := ⟨gn, k * 8 + 4, none⟩) hgn _).setCell (p := ⟨gn, k * 8 + 5, none⟩) hgn _).setCell (p := ⟨gn, k * 8 + 6, none⟩) hgn _).setCell (p := ⟨gn, k * 8 + 7, none⟩) hgn _))
      have r0 := RF.out.cell 0
      have r1 := RF.out.cell 1
      simp only [List.getElem?_cons_zero, List.getElem?_cons_succ] at r0 r1
      have r2 := RF.out.frozen 0
      have r3 := RF.out.frozen 1
      have t0 := TF.out.cell 0
      have t1 := TF.out.cell 1
      simp only [List.getElem?_cons_zero, List.getElem?_cons_succ] at t0 t1
      go_wp2_with fail
      have hGR : gn ≠ gr := AF.out.ne_ RF.out (by decide)
      exact bodyPost_ret (resultsR Try.results28 _ _ gr 25 sa (some ⟨gn, 0, none⟩) sl el sc cap _ rfl rfl (Blk.set_ (Blk.set_ RF.out 0 (.slice sa sl sc)) 1 (.slice (some ⟨gn, 0, none⟩) el cap))) rfl ⟨(BF.out.setCell (p := ⟨gr, 0, none⟩) hgr _).setCell (p := ⟨gr, 1, none⟩) hgr _, .inl ⟨HX.out, some ⟨gn, 0, none⟩, cap, rfl, (by rw [HSN.out]; exact row_of ((AF.out.far (p := ⟨gr, 0, none⟩) hGR _).far (p := ⟨gr, 1, none⟩) hGR _)), fun h => by cases h⟩⟩
  · refine step_new25 rfl rfl ?_
    intro X1 gt hB hT hgX
    have hgt : w.heap.size ≤ gt := Nat.le_trans BX0.out.size hgX
    have hPT : some gp ≠ some gt := fun e => by injection e with e; have := PX0.out.lt; omega
    have hRT : some gr ≠ some gt := fun e => by injection e with e; have := RX0.out.lt; omega
    have BX1 : Hid (Below w.heap.size w X1) := Lib.hid (BX0.out.trans (hB.mono BX0.out.size))
    have PX1 : Hid (Blk X1 gp 25 [.slice sa sl sc, .slice (some ⟨be, oe, none⟩) el ec]) := Lib.hid (PX0.out.below hB PX0.out.lt)
    have RX1 : Hid (Blk X1 gr 25 [.slice none 0 0, .slice none 0 0]) := Lib.hid (RX0.out.below hB RX0.out.lt)
    have VX1 : Hid (Blk X1 gv 102 [.int .i64 p, .int .i64 q, .int .u64 x1, .int .u64 x2, .int .u64 f, .int .u64 g, .int .u64 h, .int .u64 i]) := Lib.hid (VX0.out.below hB VX0.out.lt)
    have TX1 : Hid (Blk X1 gt 25 [.slice none 0 0, .slice none 0 0]) := Lib.hid (hT)
    clear BX0 PX0 RX0 VX0 hB hT hgX
    refine hK.out _ _ (PX1.out) (fun hHeld => ?_)
    clear hK K
    show wpAnyH _ _ _ _ _ _ _ (Act.put _ (some 16) _) _
    simp only [Act.put, List.setIfInBounds_toArray, List.set_cons_zero, List.set_cons_succ]
    refine wpAnyH_ready (rs := [2]) (by kernel_rfl) (by simp) ?_
    refine AllReadyH.cons rfl (fun K hK => ?_) AllReadyH.nil
    refine step_lay23 rfl rfl ?_
    intro X2 gE hB hE hgX
    have hgE : w.heap.size ≤ gE := Nat.le_trans BX1.out.size hgX
    have hVE : some gv ≠ some gE := fun e => by injection e with e; have := VX1.out.lt; omega
    have BX2 : Hid (Below w.heap.size w X2) := Lib.hid (BX1.out.trans (hB.mono BX1.out.size))
    have PX2 : Hid (Blk X2 gp 25 [.slice sa sl sc, .slice (some ⟨be, oe, none⟩) el ec]) := Lib.hid (PX1.out.below hB PX1.out.lt)
    have RX2 : Hid (Blk X2 gr 25 [.slice none 0 0, .slice none 0 0]) := Lib.hid (RX1.out.below hB RX1.out.lt)
    have VX2 : Hid (Blk X2 gv 102 [.int .i64 p, .int .i64 q, .int .u64 x1, .int .u64 x2, .int .u64 f, .int .u64 g, .int .u64 h, .int .u64 i]) := Lib.hid (VX1.out.below hB VX1.out.lt)
    have TX2 : Hid (Blk X2 gt 25 [.slice none 0 0, .slice none 0 0]) := Lib.hid (TX1.out.below hB TX1.out.lt)
    have EX2 : Hid (Blk X2 gE 102 []) := Lib.hid (hE)
    clear BX1 PX1 RX1 VX1 TX1 hB hE hgX
    refine hK.out _ _ (PX2.out) (fun hHeld => ?_)
    clear hK K
    show wpAnyH _ _ _ _ _ _ _ (Act.put _ (some 93) _) _
    simp only [Act.put, List.setIfInBounds_toArray, List.set_cons_zero, List.set_cons_succ]
    refine wpAnyH_ready (rs := [5]) (by kernel_rfl) (by simp) ?_
    refine AllReadyH.cons rfl (fun K hK => ?_) AllReadyH.nil
    refine step_app23 rfl (.tmp 93) (.tmp 95) rfl gE rfl EX2.out _ el ec rfl es HEL.out (HE0.out.below BX2.out) hel2 ?_
    intro X3 gn cap sp hO hA hat
    have hgO : w.heap.size ≤ gE := hgE
    have hPO : some gp ≠ some gE := fun e => PX2.out.ne_ EX2.out (by decide) (by injection e)
    have hRO : some gr ≠ some gE := fun e => RX2.out.ne_ EX2.out (by decide) (by injection e)
    have hVO := hVE
    have hgn : w.heap.size ≤ gn := by have := BX2.out.size; omega
    have hTO : some gt ≠ some gE := fun e => TX2.out.ne_ EX2.out (by decide) (by injection e)
    have BX3 : Hid (Below w.heap.size w X3) := Lib.hid (up_grown BX2.out hO hgO BX2.out.size)
    have PX3 : Hid (Blk X3 gp 25 [.slice sa sl sc, .slice (some ⟨be, oe, none⟩) el ec]) := Lib.hid (PX2.out.grown hO hPO)
    have RX3 : Hid (Blk X3 gr 25 [.slice none 0 0, .slice none 0 0]) := Lib.hid (RX2.out.grown hO hRO)
    have VX3 : Hid (Blk X3 gv 102 [.int .i64 p, .int .i64 q, .int .u64 x1, .int .u64 x2, .int .u64 f, .int .u64 g, .int .u64 h, .int .u64 i]) := Lib.hid (VX2.out.grown hO hVO)
    have TX3 : Hid (Blk X3 gt 25 [.slice none 0 0, .slice none 0 0]) := Lib.hid (TX2.out.grown hO hTO)
    have AX3 : Hid (Blk X3 gn 102 (eflat es ++ sp)) := Lib.hid (hA)
    clear BX2 PX2 RX2 VX2 TX2 hO hA
    refine hK.out _ _ (PX3.out) (fun hHeld => ?_)
    clear hK K
    show wpAnyH _ _ _ _ _ _ _ (Act.put _ (some 96) _) _
    simp only [Act.put, List.setIfInBounds_toArray, List.set_cons_zero, List.set_cons_succ]
    refine wpAnyH_take (i := 6) (v := .agg #[.slice sa sl sc, .slice (some ⟨gn, 0, none⟩) el cap]) rfl (by kernel_rfl) (by kernel_rfl) (by kernel_rfl) (fun _ _ _ h => h) (Or.inl ⟨by rfl, by intro w' h; kernel_rfl⟩) hHeld ?_
    show wpAnyH _ _ _ _ _ _ _ (Act.put _ (some 97) _) _
    simp only [Act.put, List.setIfInBounds_toArray, List.set_cons_zero, List.set_cons_succ]
    refine wpAnyH_ready (rs := [8]) (by kernel_rfl) (by simp) ?_
    refine AllReadyH.cons rfl (fun K hK => ?_) AllReadyH.nil
    refine step_store25 rfl (.tmp 16) (.tmp 97) rfl gt _ _ sa (some ⟨gn, 0, none⟩) sl sc el cap rfl rfl TX3.out ?_
    intro X4 hT hO
    have hgO := hgt
    have hPO := hPT
    have hRO := hRT
    have hVO : some gv ≠ some gt := fun e => VX3.out.ne_ TX3.out (by decide) (by injection e)
    have hAO : some gn ≠ some gt := fun e => AX3.out.ne_ TX3.out (by decide) (by injection e)
    have BX4 : Hid (Below w.heap.size w X4) := Lib.hid (up_grown BX3.out hO hgO BX3.out.size)
    have PX4 : Hid (Blk X4 gp 25 [.slice sa sl sc, .slice (some ⟨be, oe, none⟩) el ec]) := Lib.hid (PX3.out.grown hO hPO)
    have RX4 : Hid (Blk X4 gr 25 [.slice none 0 0, .slice none 0 0]) := Lib.hid (RX3.out.grown hO hRO)
    have VX4 : Hid (Blk X4 gv 102 [.int .i64 p, .int .i64 q, .int .u64 x1, .int .u64 x2, .int .u64 f, .int .u64 g, .int .u64 h, .int .u64 i]) := Lib.hid (VX3.out.grown hO hVO)
    have AX4 : Hid (Blk X4 gn 102 (eflat es ++ sp)) := Lib.hid (AX3.out.grown hO hAO)
    have TX4 : Hid (Blk X4 gt 25 [.slice sa sl sc, .slice (some ⟨gn, 0, none⟩) el cap]) := Lib.hid (hT)
    clear BX3 PX3 RX3 VX3 AX3 hO hT
    refine hK.out _ _ (PX4.out) (fun hHeld => ?_)
    clear hK K
    show wpAnyH _ _ _ _ _ _ _ (Act.put _ none _) _
    simp only [Act.put]
    refine wpAnyH_done (by kernel_rfl) ?_ _
    clear hHeld
    have c0 := TX4.out.cell 1
    simp only [List.getElem?_cons_zero, List.getElem?_cons_succ] at c0
    have y0 : X4.cell? ⟨gv, 0, none⟩ = some (.int .i64 p) := VX4.out.cell 0
    have y1 : X4.cell? ⟨gv, 1, none⟩ = some (.int .i64 q) := VX4.out.cell 1
    have y2 : X4.cell? ⟨gv, 2, none⟩ = some (.int .u64 x1) := VX4.out.cell 2
    have y3 : X4.cell? ⟨gv, 3, none⟩ = some (.int .u64 x2) := VX4.out.cell 3
    have y4 : X4.cell? ⟨gv, 4, none⟩ = some (.int .u64 f) := VX4.out.cell 4
    have y5 : X4.cell? ⟨gv, 5, none⟩ = some (.int .u64 g) := VX4.out.cell 5
    have y6 : X4.cell? ⟨gv, 6, none⟩ = some (.int .u64 h) := VX4.out.cell 6
    have y7 : X4.cell? ⟨gv, 7, none⟩ = some (.int .u64 i) := VX4.out.cell 7
    have z0 : X4.cell? ⟨gn, k * 8, none⟩ = some (.int .i64 p) := ed_cells AX4.out HKK.out 0 _ (by rw [HZ.out]; rfl)
    have q0 : X4.frozen? ⟨gn, k * 8, none⟩ = false := AX4.out.frozen _
    have z1 : X4.cell? ⟨gn, k * 8 + 1, none⟩ = some (.int .i64 q) := ed_cells AX4.out HKK.out 1 _ (by rw [HZ.out]; rfl)
    have q1 : X4.frozen? ⟨gn, k * 8 + 1, none⟩ = false := AX4.out.frozen _
    have z2 : X4.cell? ⟨gn, k * 8 + 2, none⟩ = some (.int .u64 c) := ed_cells AX4.out HKK.out 2 _ (by rw [HZ.out]; rfl)
    have q2 : X4.frozen? ⟨gn, k * 8 + 2, none⟩ = false := AX4.out.frozen _
    have z3 : X4.cell? ⟨gn, k * 8 + 3, none⟩ = some (.int .u64 d) := ed_cells AX4.out HKK.out 3 _ (by rw [HZ.out]; rfl)
    have q3 : X4.frozen? ⟨gn, k * 8 + 3, none⟩ = false := AX4.out.frozen _
    have z4 : X4.cell? ⟨gn, k * 8 + 4, none⟩ = some (.int .u64 f) := ed_cells AX4.out HKK.out 4 _ (by rw [HZ.out]; rfl)
    have q4 : X4.frozen? ⟨gn, k * 8 + 4, none⟩ = false := AX4.out.frozen _
    have z5 : X4.cell? ⟨gn, k * 8 + 5, none⟩ = some (.int .u64 g) := ed_cells AX4.out HKK.out 5 _ (by rw [HZ.out]; rfl)
    have q5 : X4.frozen? ⟨gn, k * 8 + 5, none⟩ = false := AX4.out.frozen _
    have z6 : X4.cell? ⟨gn, k * 8 + 6, none⟩ = some (.int .u64 h) := ed_cells AX4.out HKK.out 6 _ (by rw [HZ.out]; rfl)
    have q6 : X4.frozen? ⟨gn, k * 8 + 6, none⟩ = false := AX4.out.frozen _
    have z7 : X4.cell? ⟨gn, k * 8 + 7, none⟩ = some (.int .u64 i) := ed_cells AX4.out HKK.out 7 _ (by rw [HZ.out]; rfl)
    have q7 : X4.frozen? ⟨gn, k * 8 + 7, none⟩ = false := AX4.out.frozen _
    have hTA := TX4.out.ne_ AX4.out (by decide)
    have hRA := RX4.out.ne_ AX4.out (by decide)
    have AF : Hid (Blk ((((((((X4.setCell ⟨gn, k * 8, none⟩ (.int .i64 p)).setCell ⟨gn, k * 8 + 1, none⟩ (.int .i64 q)).setCell ⟨gn, k * 8 + 2, none⟩ (.int .u64 x1)).setCell ⟨gn, k * 8 + 3, none⟩ (.int .u64 x2)).setCell ⟨gn, k * 8 + 4, none⟩ (.int .u64 f)).setCell ⟨gn, k * 8 + 5, none⟩ (.int .u64 g)).setCell ⟨gn, k * 8 + 6, none⟩ (.int .u64 h)).setCell ⟨gn, k * 8 + 7, none⟩ (.int .u64 i)) gn 102 (eflat (es.set k ⟨p, q, x1, x2, f, g, h, i⟩) ++ sp)) := Lib.hid (row8 AX4.out HKK.out p q x1 x2 f g h i)
    have TF : Hid (Blk ((((((((X4.setCell ⟨gn, k * 8, none⟩ (.int .i64 p)).setCell ⟨gn, k * 8 + 1, none⟩ (.int .i64 q)).setCell ⟨gn, k * 8 + 2, none⟩ (.int .u64 x1)).setCell ⟨gn, k * 8 + 3, none⟩ (.int .u64 x2)).setCell ⟨gn, k * 8 + 4, none⟩ (.int .u64 f)).setCell ⟨gn, k * 8 + 5, none⟩ (.int .u64 g)).setCell ⟨gn, k * 8 + 6, none⟩ (.int .u64 h)).setCell ⟨gn, k * 8 + 7, none⟩ (.int .u64 i)) gt 25 [.slice sa sl sc, .slice (some ⟨gn, 0, none⟩) el cap]) := Lib.hid (((((((((TX4.out.far (p := ⟨gn, k * 8, none⟩) hTA _).far (p := ⟨gn, k * 8 + 1, none⟩) hTA _).far (p := ⟨gn, k * 8 + 2, none⟩) hTA _).far (p := ⟨gn, k * 8 + 3, none⟩) hTA _).far (p := ⟨gn, k * 8 + 4, none⟩) hTA _).far (p := ⟨gn, k * 8 + 5, none⟩) hTA _).far (p := ⟨gn, k * 8 + 6, none⟩) hTA _).far (p := ⟨gn, k * 8 + 7, none⟩) hTA _))
    have RF : Hid (Blk ((((((((X4.setCell ⟨gn, k * 8, none⟩ (.int .i64 p)).setCell ⟨gn, k * 8 + 1, none⟩ (.int .i64 q)).setCell ⟨gn, k * 8 + 2, none⟩ (.int .u64 x1)).setCell ⟨gn, k * 8 + 3, none⟩ (.int .u64 x2)).setCell ⟨gn, k * 8 + 4, none⟩ (.int .u64 f)).setCell ⟨gn, k * 8 + 5, none⟩ (.int .u64 g)).setCell ⟨gn, k * 8 + 6, none⟩ (.int .u64 h)).setCell ⟨gn, k * 8 + 7, none⟩ (.int .u64 i)) gr 25 [.slice none 0 0, .slice none 0 0]) := Lib.hid (((((((((RX4.out.far (p := ⟨gn, k * 8, none⟩) hRA _).far (p := ⟨gn, k * 8 + 1, none⟩) hRA _).far (p := ⟨gn, k * 8 + 2, none⟩) hRA _).far (p := ⟨gn, k * 8 + 3, none⟩) hRA _).far (p := ⟨gn, k * 8 + 4, none⟩) hRA _).far (p := ⟨gn, k * 8 + 5, none⟩) hRA _).far (p := ⟨gn, k * 8 + 6, none⟩) hRA _).far (p := ⟨gn, k * 8 + 7, none⟩) hRA _))
    have BF : Hid (Below w.heap.size w ((((((((X4.setCell ⟨gn, k * 8, none⟩ (.int .i64 p)).setCell ⟨gn, k * 8 + 1, none⟩ (.int .i64 q)).setCell ⟨gn, k * 8 + 2, none⟩ (.int .u64 x1)).setCell ⟨gn, k * 8 + 3, none⟩ (.int .u64 x2)).setCell ⟨gn, k * 8 + 4, none⟩ (.int .u64 f)).setCell ⟨gn, k * 8 + 5, none⟩ (.int .u64 g)).setCell ⟨gn, k * 8 + 6, none⟩ (.int .u64 h)).setCell ⟨gn, k * 8 + 7, none⟩ (.int .u64 i))) := Lib.hid (((((((((BX4.out.setCell (p := ⟨gn, k * 8, none⟩) hgn _).setCell (p := ⟨gn, k * 8 + 1, none⟩) hgn _).setCell (p := ⟨gn, k * 8 + 2, none⟩) hgn _).setCell (p := ⟨gn, k * 8 + 3, none⟩) hgn _).setCell (p := ⟨gn, k * 8 + 4, none⟩) hgn _).setCell (p := ⟨gn, k * 8 + 5, none⟩) hgn _).setCell (p := ⟨gn, k * 8 + 6, none⟩) hgn _).setCell (p := ⟨gn, k * 8 + 7, none⟩) hgn _))
    have r0 := RF.out.cell 0
    have r1 := RF.out.cell 1
    simp only [List.getElem?_cons_zero, List.getElem?_cons_succ] at r0 r1
    have r2 := RF.out.frozen 0
    have r3 := RF.out.frozen 1
    have t0 := TF.out.cell 0
    have t1 := TF.out.cell 1
    simp only [List.getElem?_cons_zero, List.getElem?_cons_succ] at t0 t1
    go_wp2_with fail
    have hGR : gn ≠ gr := AF.out.ne_ RF.out (by decide)
    exact bodyPost_ret (resultsR Try.results28 _ _ gr 25 sa (some ⟨gn, 0, none⟩) sl el sc cap _ rfl rfl (Blk.set_ (Blk.set_ RF.out 0 (.slice sa sl sc)) 1 (.slice (some ⟨gn, 0, none⟩) el cap))) rfl ⟨(BF.out.setCell (p := ⟨gr, 0, none⟩) hgr _).setCell (p := ⟨gr, 1, none⟩) hgr _, .inl ⟨HX.out, some ⟨gn, 0, none⟩, cap, rfl, (by rw [HSN.out]; exact row_of ((AF.out.far (p := ⟨gr, 0, none⟩) hGR _).far (p := ⟨gr, 1, none⟩) hGR _)), fun h => by cases h⟩⟩

set_option maxRecDepth 100000 in
set_option maxHeartbeats 8000000 in
theorem rsent_good1 (sa : Option Addr) (sl sc : Nat) (ea : Option Addr) (el ec : Nat) (es : List Ed) (edge node amt : Int) (w : World) (hE : EdgeRow w ea es) (hel : es.length = el) (hel2 : el ≤ 100) (hsl2 : sl ≤ 1000) (hok : ∀ e ∈ es, EdOk e) (hamt : Word amt) (k : Nat) (p q c d f g h i : Int) (hk : k < el) (hedge : edge = k) (hc : checkE sl es = 0) (hz : es.getD k ed0 = ⟨p, q, c, d, f, g, h, i⟩) (h1 : ¬ p = node) (h2 : q = node) (hle : amt ≤ d) (hlt : c + amt < 18446744073709551616) :
    Calls Try.prog 28 #[.agg #[.slice sa sl sc, .slice ea el ec], .int .i64 edge, .int .i64 node, .int .u64 amt] w (RSent w sa sl sc el es edge node amt) := by
  have hs : sideE ⟨p, q, c, d, f, g, h, i⟩ node = 1 := by unfold sideE; rw [if_neg h1, if_pos h2]
  have HX : Hid (sentErr sl es edge node amt = 0) := Lib.hid (by subst hedge; unfold sentErr; rw [if_neg (by rw [hc]; simp), if_neg (by omega), Int.toNat_natCast, hz, hs]; rw [if_neg (by decide), if_neg (by simp [canE, subE]; omega)]; simp [canE, addE]; omega)
  have hwo : Word c := by have h := hok _ (ed_mem es k (by rw [hel]; exact hk)); rw [hz] at h; exact h.2.2.1
  have hwc : Word d := by have h := hok _ (ed_mem es k (by rw [hel]; exact hk)); rw [hz] at h; exact h.2.2.2.1
  have HA := Lib.hid (fun W => radd_any c amt W hwo hamt)
  have hae : addE c amt = 0 := if_pos hlt
  have hav : addV c amt = c + amt := if_pos hlt
  rw [hae, hav] at HA
  obtain ⟨x1, hx1⟩ : ∃ x, d - amt = x := ⟨_, rfl⟩
  obtain ⟨x2, hx2⟩ : ∃ x, c + amt = x := ⟨_, rfl⟩
  rw [hx2] at HA
  have hs1 : IntKind.u64.wrap (d - amt) = x1 := by rw [← hx1]; unfold Word at hwc hamt; simp [IntKind.wrap, IntKind.signed, IntKind.bits]; omega
  have HSN : Hid (sentL es edge node amt = es.set k ⟨p, q, x2, x1, f, g, h, i⟩) := Lib.hid (by subst hedge; unfold sentL; rw [Int.toNat_natCast, hz, hs]; unfold sentEd; simp [← hx1, ← hx2])
  subst hedge
  have HC := Lib.hid hc
  have hk0 : (0 : Int) ≤ (k : Int) := Int.natCast_nonneg _
  have hk1 : (k : Int) < (el : Int) := by omega
  have hk2 : decide ((k : Int) < 0) = false := decide_eq_false (by omega)
  have hk3 : decide ((el : Int) ≤ (k : Int)) = false := decide_eq_false (by omega)
  have hk' : k < es.length := by rw [hel]; exact hk
  have HZ := Lib.hid hz
  have HKK := Lib.hid hk'
  have b1 : (p == node) = false := by simpa using h1
  have b2 : (q == node) = true := by simpa using h2
  have d5 : decide (d < amt) = false := decide_eq_false (by omega)
  clear h1 h2 hs hok hamt hz hle hlt hwo hwc hae hav hx1 hx2
  clear hc hk'
  have HEL := Lib.hid hel
  have E0w := Lib.hid hE
  have HE0 := E0w
  clear hel hE
  go_enter Try.func28, Try.ntmps28
  go_wp2_with fail
  have EY0 : Hid (EdgeRow ((w.alloc (.cells #[.slice sa sl sc, .slice ea el ec] 25)).alloc (.cells #[.slice none 0 0, .slice none 0 0] 25)) ea es) := Lib.hid (E0w.out.below (((Below.refl _ _).alloc (Nat.le_refl _) _).alloc (by simp) _))
  have PY0 : Hid (Blk ((w.alloc (.cells #[.slice sa sl sc, .slice ea el ec] 25)).alloc (.cells #[.slice none 0 0, .slice none 0 0] 25)) w.heap.size 25 [.slice sa sl sc, .slice ea el ec]) := Lib.hid ((Blk.mk_ (cs := [.slice sa sl sc, .slice ea el ec]) rfl).alloc _)
  have RY0 : Hid (Blk ((w.alloc (.cells #[.slice sa sl sc, .slice ea el ec] 25)).alloc (.cells #[.slice none 0 0, .slice none 0 0] 25)) (w.heap.size + 1) 25 [.slice none 0 0, .slice none 0 0]) := Lib.hid (Blk.mk_ (cs := [.slice none 0 0, .slice none 0 0]) (by simp))
  have BY0 : Hid (Below w.heap.size w ((w.alloc (.cells #[.slice sa sl sc, .slice ea el ec] 25)).alloc (.cells #[.slice none 0 0, .slice none 0 0] 25))) := Lib.hid (((Below.refl _ _).alloc (Nat.le_refl _) _).alloc (by simp) _)
  generalize ((w.alloc (.cells #[.slice sa sl sc, .slice ea el ec] 25)).alloc (.cells #[.slice none 0 0, .slice none 0 0] 25)) = Y0 at EY0 PY0 RY0 BY0 ⊢
  have hgr : w.heap.size ≤ w.heap.size + 1 := by omega
  have hpr : w.heap.size ≠ w.heap.size + 1 := by omega
  obtain ⟨gp, hgp⟩ : ∃ g, w.heap.size = g := ⟨_, rfl⟩
  obtain ⟨gr, hgr2⟩ : ∃ g, w.heap.size + 1 = g := ⟨_, rfl⟩
  rw [hgr2] at RY0 hgr hpr ⊢
  rw [hgp] at PY0 hpr
  have HGP := Lib.hid hgp
  clear hgr2
  clear E0w
  refine (rcheck_any sa sl sc ea el ec es Y0 EY0.out HEL.out (by omega) (by omega)).mono ?_
  rintro e Y1 ⟨rfl, hB⟩
  have BY1 : Hid (Below w.heap.size w Y1) := Lib.hid (BY0.out.trans (hB.mono BY0.out.size))
  have EY1 : Hid (EdgeRow Y1 ea es) := Lib.hid (EY0.out.below hB)
  have PY1 : Hid (Blk Y1 gp 25 [.slice sa sl sc, .slice ea el ec]) := Lib.hid (PY0.out.below hB PY0.out.lt)
  have RY1 : Hid (Blk Y1 gr 25 [.slice none 0 0, .slice none 0 0]) := Lib.hid (RY0.out.below hB RY0.out.lt)
  clear BY0 EY0 PY0 RY0
  clear hB
  obtain ⟨be, oe, rfl, hce⟩ := EY1.out.at_ HKK.out
  rw [HZ.out] at hce
  have CY1 : Hid (EdAt Y1 be (oe + k * 8) ⟨p, q, c, d, f, g, h, i⟩) := Lib.hid (hce)
  clear hce
  rw [HC.out]
  have cP0 := Blk.cell PY1.out 0
  have cP1 := Blk.cell PY1.out 1
  simp only [List.getElem?_cons_zero, List.getElem?_cons_succ] at cP0 cP1
  have e0 : Y1.cell? ⟨be, oe + k * 8, none⟩ = some (.int .i64 p) := CY1.out.2 0 _ rfl
  have e1 : Y1.cell? ⟨be, oe + k * 8 + 1, none⟩ = some (.int .i64 q) := CY1.out.2 1 _ rfl
  have e2 : Y1.cell? ⟨be, oe + k * 8 + 2, none⟩ = some (.int .u64 c) := CY1.out.2 2 _ rfl
  have e3 : Y1.cell? ⟨be, oe + k * 8 + 3, none⟩ = some (.int .u64 d) := CY1.out.2 3 _ rfl
  have e4 : Y1.cell? ⟨be, oe + k * 8 + 4, none⟩ = some (.int .u64 f) := CY1.out.2 4 _ rfl
  have e5 : Y1.cell? ⟨be, oe + k * 8 + 5, none⟩ = some (.int .u64 g) := CY1.out.2 5 _ rfl
  have e6 : Y1.cell? ⟨be, oe + k * 8 + 6, none⟩ = some (.int .u64 h) := CY1.out.2 6 _ rfl
  have e7 : Y1.cell? ⟨be, oe + k * 8 + 7, none⟩ = some (.int .u64 i) := CY1.out.2 7 _ rfl
  go_wp2
  refine wp_loop_rounds 3 ?_
  rw [rounds_succ]
  go_wp2
  rw [rounds_succ]
  go_wp2
  rw [rounds_succ]
  have HBo := BY1
  have hB : Below Y1.heap.size Y1 (Y1.alloc (.cells #[.int .i64 p, .int .i64 q, .int .u64 c, .int .u64 d, .int .u64 f, .int .u64 g, .int .u64 h, .int .u64 i] 102)) := (Below.refl _ _).alloc (Nat.le_refl _) _
  have BY2 : Hid (Below w.heap.size w (Y1.alloc (.cells #[.int .i64 p, .int .i64 q, .int .u64 c, .int .u64 d, .int .u64 f, .int .u64 g, .int .u64 h, .int .u64 i] 102))) := Lib.hid (BY1.out.trans (hB.mono BY1.out.size))
  have EY2 : Hid (EdgeRow (Y1.alloc (.cells #[.int .i64 p, .int .i64 q, .int .u64 c, .int .u64 d, .int .u64 f, .int .u64 g, .int .u64 h, .int .u64 i] 102)) (some ⟨be, oe, none⟩) es) := Lib.hid (EY1.out.below hB)
  have PY2 : Hid (Blk (Y1.alloc (.cells #[.int .i64 p, .int .i64 q, .int .u64 c, .int .u64 d, .int .u64 f, .int .u64 g, .int .u64 h, .int .u64 i] 102)) gp 25 [.slice sa sl sc, .slice (some ⟨be, oe, none⟩) el ec]) := Lib.hid (PY1.out.below hB PY1.out.lt)
  have RY2 : Hid (Blk (Y1.alloc (.cells #[.int .i64 p, .int .i64 q, .int .u64 c, .int .u64 d, .int .u64 f, .int .u64 g, .int .u64 h, .int .u64 i] 102)) gr 25 [.slice none 0 0, .slice none 0 0]) := Lib.hid (RY1.out.below hB RY1.out.lt)
  have CY2 : Hid (EdAt (Y1.alloc (.cells #[.int .i64 p, .int .i64 q, .int .u64 c, .int .u64 d, .int .u64 f, .int .u64 g, .int .u64 h, .int .u64 i] 102)) be (oe + k * 8) ⟨p, q, c, d, f, g, h, i⟩) := Lib.hid (CY1.out.below hB)
  have VY2 : Hid (Blk (Y1.alloc (.cells #[.int .i64 p, .int .i64 q, .int .u64 c, .int .u64 d, .int .u64 f, .int .u64 g, .int .u64 h, .int .u64 i] 102)) Y1.heap.size 102 [.int .i64 p, .int .i64 q, .int .u64 c, .int .u64 d, .int .u64 f, .int .u64 g, .int .u64 h, .int .u64 i]) := Lib.hid (Blk.new _ _ [.int .i64 p, .int .i64 q, .int .u64 c, .int .u64 d, .int .u64 f, .int .u64 g, .int .u64 h, .int .u64 i])
  clear hB BY1 EY1 PY1 RY1 CY1
  go_wp2_with fail
  clear cP0 cP1
  generalize (Y1.alloc (.cells #[.int .i64 p, .int .i64 q, .int .u64 c, .int .u64 d, .int .u64 f, .int .u64 g, .int .u64 h, .int .u64 i] 102)) = Y2 at BY2 EY2 PY2 RY2 CY2 VY2 ⊢
  obtain ⟨gv, hgv0⟩ : ∃ g, Y1.heap.size = g := ⟨_, rfl⟩
  have HGV : Hid (w.heap.size ≤ gv) := Lib.hid (by rw [← hgv0]; exact HBo.out.size)
  rw [hgv0] at VY2 ⊢
  clear hgv0
  clear e0 e1 e2 e3 e4 e5 e6 e7
  refine (HA.out _).mono ?_
  rintro e Y9 ⟨rfl, rfl⟩
  have v0 := VY2.out.cell 2
  have v1 := VY2.out.cell 3
  simp only [List.getElem?_cons_zero, List.getElem?_cons_succ] at v0 v1
  have v2 := VY2.out.frozen 2
  have v3 := VY2.out.frozen 3
  have VY20 : Hid (Blk ((Y2.setCell ⟨gv, 3, none⟩ (.int .u64 x1)).setCell ⟨gv, 2, none⟩ (.int .u64 x2)) gv 102 [.int .i64 p, .int .i64 q, .int .u64 x2, .int .u64 x1, .int .u64 f, .int .u64 g, .int .u64 h, .int .u64 i]) := Lib.hid ((VY2.out.set_ 3 (.int .u64 x1)).set_ 2 (.int .u64 x2))
  have PY20 : Hid (Blk ((Y2.setCell ⟨gv, 3, none⟩ (.int .u64 x1)).setCell ⟨gv, 2, none⟩ (.int .u64 x2)) gp 25 [.slice sa sl sc, .slice (some ⟨be, oe, none⟩) el ec]) := Lib.hid ((PY2.out.far (p := ⟨gv, 3, none⟩) (PY2.out.ne_ VY2.out (by decide)) _).far (p := ⟨gv, 2, none⟩) (PY2.out.ne_ VY2.out (by decide)) _)
  have RY20 : Hid (Blk ((Y2.setCell ⟨gv, 3, none⟩ (.int .u64 x1)).setCell ⟨gv, 2, none⟩ (.int .u64 x2)) gr 25 [.slice none 0 0, .slice none 0 0]) := Lib.hid ((RY2.out.far (p := ⟨gv, 3, none⟩) (RY2.out.ne_ VY2.out (by decide)) _).far (p := ⟨gv, 2, none⟩) (RY2.out.ne_ VY2.out (by decide)) _)
  have BY20 : Hid (Below w.heap.size w ((Y2.setCell ⟨gv, 3, none⟩ (.int .u64 x1)).setCell ⟨gv, 2, none⟩ (.int .u64 x2))) := Lib.hid ((BY2.out.setCell (p := ⟨gv, 3, none⟩) HGV.out _).setCell (p := ⟨gv, 2, none⟩) HGV.out _)
  clear BY2 EY2 CY2 PY2 RY2 VY2
  go_wp2_with fail
  clear v0 v1 v2 v3
  generalize ((Y2.setCell ⟨gv, 3, none⟩ (.int .u64 x1)).setCell ⟨gv, 2, none⟩ (.int .u64 x2)) = Y20 at VY20 PY20 RY20 BY20 ⊢
  have hBz : Below Y20.heap.size Y20 Y20.drew := below_drewN (Below.refl _ _) 1
  have BX0 : Hid (Below w.heap.size w Y20.drew) := Lib.hid (BY20.out.trans (hBz.mono BY20.out.size))
  have PX0 : Hid (Blk Y20.drew gp 25 [.slice sa sl sc, .slice (some ⟨be, oe, none⟩) el ec]) := Lib.hid (PY20.out.below hBz PY20.out.lt)
  have RX0 : Hid (Blk Y20.drew gr 25 [.slice none 0 0, .slice none 0 0]) := Lib.hid (RY20.out.below hBz RY20.out.lt)
  have VX0 : Hid (Blk Y20.drew gv 102 [.int .i64 p, .int .i64 q, .int .u64 x2, .int .u64 x1, .int .u64 f, .int .u64 g, .int .u64 h, .int .u64 i]) := Lib.hid (VY20.out.below hBz VY20.out.lt)
  clear hBz
  refine wp_region_held_drew (S := fun w' => Blk w' gp 25 [.slice sa sl sc, .slice (some ⟨be, oe, none⟩) el ec]) (by kernel_rfl) (PX0.out) (fun hHeld => ?_)
  generalize Y20.drew = X0 at hHeld BX0 PX0 RX0 VX0 ⊢
  refine wpAnyH_take (i := 0) (v := .pointer (some ⟨gp, 0, none⟩)) rfl (by kernel_rfl) (by kernel_rfl) (by kernel_rfl) (fun _ _ _ h => h) (Or.inl ⟨by rfl, by intro w' h; go_simp⟩) hHeld ?_
  show wpAnyH _ _ _ _ _ _ _ (Act.put _ (some 91) _) _
  simp only [Act.put, List.setIfInBounds_toArray, List.set_cons_zero, List.set_cons_succ]
  refine wpAnyH_take (i := 1) (v := .slice sa sl sc) rfl (by kernel_rfl) (by kernel_rfl) (by kernel_rfl) (fun _ _ _ h => h) (Or.inl ⟨by rfl, by intro w' h; have k0 := Blk.cell h 0; simp only [List.getElem?_cons_zero] at k0; go_simp⟩) hHeld ?_
  show wpAnyH _ _ _ _ _ _ _ (Act.put _ (some 92) _) _
  simp only [Act.put, List.setIfInBounds_toArray, List.set_cons_zero, List.set_cons_succ]
  refine wpAnyH_take (i := 3) (v := .pointer (some ⟨gp, 1, none⟩)) rfl (by kernel_rfl) (by kernel_rfl) (by kernel_rfl) (fun _ _ _ h => h) (Or.inl ⟨by rfl, by intro w' h; go_simp⟩) hHeld ?_
  show wpAnyH _ _ _ _ _ _ _ (Act.put _ (some 94) _) _
  simp only [Act.put, List.setIfInBounds_toArray, List.set_cons_zero, List.set_cons_succ]
  refine wpAnyH_take (i := 4) (v := .slice (some ⟨be, oe, none⟩) el ec) rfl (by kernel_rfl) (by kernel_rfl) (by kernel_rfl) (fun _ _ _ h => h) (Or.inl ⟨by rfl, by intro w' h; have k1 := Blk.cell h 1; simp only [List.getElem?_cons_zero, List.getElem?_cons_succ] at k1; go_simp⟩) hHeld ?_
  show wpAnyH _ _ _ _ _ _ _ (Act.put _ (some 95) _) _
  simp only [Act.put, List.setIfInBounds_toArray, List.set_cons_zero, List.set_cons_succ]
  refine wpAnyH_ready (rs := [2, 7]) (by kernel_rfl) (by simp) ?_
  refine AllReadyH.cons rfl (fun K hK => ?_) (AllReadyH.cons rfl (fun K hK => ?_) AllReadyH.nil)
  · refine step_lay23 rfl rfl ?_
    intro X1 gE hB hE hgX
    have hgE : w.heap.size ≤ gE := Nat.le_trans BX0.out.size hgX
    have hVE : some gv ≠ some gE := fun e => by injection e with e; have := VX0.out.lt; omega
    have BX1 : Hid (Below w.heap.size w X1) := Lib.hid (BX0.out.trans (hB.mono BX0.out.size))
    have PX1 : Hid (Blk X1 gp 25 [.slice sa sl sc, .slice (some ⟨be, oe, none⟩) el ec]) := Lib.hid (PX0.out.below hB PX0.out.lt)
    have RX1 : Hid (Blk X1 gr 25 [.slice none 0 0, .slice none 0 0]) := Lib.hid (RX0.out.below hB RX0.out.lt)
    have VX1 : Hid (Blk X1 gv 102 [.int .i64 p, .int .i64 q, .int .u64 x2, .int .u64 x1, .int .u64 f, .int .u64 g, .int .u64 h, .int .u64 i]) := Lib.hid (VX0.out.below hB VX0.out.lt)
    have EX1 : Hid (Blk X1 gE 102 []) := Lib.hid (hE)
    clear BX0 PX0 RX0 VX0 hB hE hgX
    refine hK.out _ _ (PX1.out) (fun hHeld => ?_)
    clear hK K
    show wpAnyH _ _ _ _ _ _ _ (Act.put _ (some 93) _) _
    simp only [Act.put, List.setIfInBounds_toArray, List.set_cons_zero, List.set_cons_succ]
    refine wpAnyH_ready (rs := [5, 7]) (by kernel_rfl) (by simp) ?_
    refine AllReadyH.cons rfl (fun K hK => ?_) (AllReadyH.cons rfl (fun K hK => ?_) AllReadyH.nil)
    · refine step_app23 rfl (.tmp 93) (.tmp 95) rfl gE rfl EX1.out _ el ec rfl es HEL.out (HE0.out.below BX1.out) hel2 ?_
      intro X2 gn cap sp hO hA hat
      have hgO : w.heap.size ≤ gE := hgE
      have hPO : some gp ≠ some gE := fun e => PX1.out.ne_ EX1.out (by decide) (by injection e)
      have hRO : some gr ≠ some gE := fun e => RX1.out.ne_ EX1.out (by decide) (by injection e)
      have hVO := hVE
      have hgn : w.heap.size ≤ gn := by have := BX1.out.size; omega
      have BX2 : Hid (Below w.heap.size w X2) := Lib.hid (up_grown BX1.out hO hgO BX1.out.size)
      have PX2 : Hid (Blk X2 gp 25 [.slice sa sl sc, .slice (some ⟨be, oe, none⟩) el ec]) := Lib.hid (PX1.out.grown hO hPO)
      have RX2 : Hid (Blk X2 gr 25 [.slice none 0 0, .slice none 0 0]) := Lib.hid (RX1.out.grown hO hRO)
      have VX2 : Hid (Blk X2 gv 102 [.int .i64 p, .int .i64 q, .int .u64 x2, .int .u64 x1, .int .u64 f, .int .u64 g, .int .u64 h, .int .u64 i]) := Lib.hid (VX1.out.grown hO hVO)
      have AX2 : Hid (Blk X2 gn 102 (eflat es ++ sp)) := Lib.hid (hA)
      clear BX1 PX1 RX1 VX1 hO hA
      refine hK.out _ _ (PX2.out) (fun hHeld => ?_)
      clear hK K
      show wpAnyH _ _ _ _ _ _ _ (Act.put _ (some 96) _) _
      simp only [Act.put, List.setIfInBounds_toArray, List.set_cons_zero, List.set_cons_succ]
      refine wpAnyH_take (i := 6) (v := .agg #[.slice sa sl sc, .slice (some ⟨gn, 0, none⟩) el cap]) rfl (by kernel_rfl) (by kernel_rfl) (by kernel_rfl) (fun _ _ _ h => h) (Or.inl ⟨by rfl, by intro w' h; kernel_rfl⟩) hHeld ?_
      show wpAnyH _ _ _ _ _ _ _ (Act.put _ (some 97) _) _
      simp only [Act.put, List.setIfInBounds_toArray, List.set_cons_zero, List.set_cons_succ]
      refine wpAnyH_ready (rs := [7]) (by kernel_rfl) (by simp) ?_
      refine AllReadyH.cons rfl (fun K hK => ?_) AllReadyH.nil
      refine step_new25 rfl rfl ?_
      intro X3 gt hB hT hgX
      have hgt : w.heap.size ≤ gt := Nat.le_trans BX2.out.size hgX
      have hPT : some gp ≠ some gt := fun e => by injection e with e; have := PX2.out.lt; omega
      have hRT : some gr ≠ some gt := fun e => by injection e with e; have := RX2.out.lt; omega
      have BX3 : Hid (Below w.heap.size w X3) := Lib.hid (BX2.out.trans (hB.mono BX2.out.size))
      have PX3 : Hid (Blk X3 gp 25 [.slice sa sl sc, .slice (some ⟨be, oe, none⟩) el ec]) := Lib.hid (PX2.out.below hB PX2.out.lt)
      have RX3 : Hid (Blk X3 gr 25 [.slice none 0 0, .slice none 0 0]) := Lib.hid (RX2.out.below hB RX2.out.lt)
      have VX3 : Hid (Blk X3 gv 102 [.int .i64 p, .int .i64 q, .int .u64 x2, .int .u64 x1, .int .u64 f, .int .u64 g, .int .u64 h, .int .u64 i]) := Lib.hid (VX2.out.below hB VX2.out.lt)
      have AX3 : Hid (Blk X3 gn 102 (eflat es ++ sp)) := Lib.hid (AX2.out.below hB AX2.out.lt)
      have TX3 : Hid (Blk X3 gt 25 [.slice none 0 0, .slice none 0 0]) := Lib.hid (hT)
      clear BX2 PX2 RX2 VX2 AX2 hB hT hgX
      refine hK.out _ _ (PX3.out) (fun hHeld => ?_)
      clear hK K
      show wpAnyH _ _ _ _ _ _ _ (Act.put _ (some 16) _) _
      simp only [Act.put, List.setIfInBounds_toArray, List.set_cons_zero, List.set_cons_succ]
      refine wpAnyH_ready (rs := [8]) (by kernel_rfl) (by simp) ?_
      refine AllReadyH.cons rfl (fun K hK => ?_) AllReadyH.nil
      refine step_store25 rfl (.tmp 16) (.tmp 97) rfl gt _ _ sa (some ⟨gn, 0, none⟩) sl sc el cap rfl rfl TX3.out ?_
      intro X4 hT hO
      have hgO := hgt
      have hPO := hPT
      have hRO := hRT
      have hVO : some gv ≠ some gt := fun e => VX3.out.ne_ TX3.out (by decide) (by injection e)
      have hAO : some gn ≠ some gt := fun e => AX3.out.ne_ TX3.out (by decide) (by injection e)
      have BX4 : Hid (Below w.heap.size w X4) := Lib.hid (up_grown BX3.out hO hgO BX3.out.size)
      have PX4 : Hid (Blk X4 gp 25 [.slice sa sl sc, .slice (some ⟨be, oe, none⟩) el ec]) := Lib.hid (PX3.out.grown hO hPO)
      have RX4 : Hid (Blk X4 gr 25 [.slice none 0 0, .slice none 0 0]) := Lib.hid (RX3.out.grown hO hRO)
      have VX4 : Hid (Blk X4 gv 102 [.int .i64 p, .int .i64 q, .int .u64 x2, .int .u64 x1, .int .u64 f, .int .u64 g, .int .u64 h, .int .u64 i]) := Lib.hid (VX3.out.grown hO hVO)
      have AX4 : Hid (Blk X4 gn 102 (eflat es ++ sp)) := Lib.hid (AX3.out.grown hO hAO)
      have TX4 : Hid (Blk X4 gt 25 [.slice sa sl sc, .slice (some ⟨gn, 0, none⟩) el cap]) := Lib.hid (hT)
      clear BX3 PX3 RX3 VX3 AX3 hO hT
      refine hK.out _ _ (PX4.out) (fun hHeld => ?_)
      clear hK K
      show wpAnyH _ _ _ _ _ _ _ (Act.put _ none _) _
      simp only [Act.put]
      refine wpAnyH_done (by kernel_rfl) ?_ _
      clear hHeld
      have c0 := TX4.out.cell 1
      simp only [List.getElem?_cons_zero, List.getElem?_cons_succ] at c0
      have y0 : X4.cell? ⟨gv, 0, none⟩ = some (.int .i64 p) := VX4.out.cell 0
      have y1 : X4.cell? ⟨gv, 1, none⟩ = some (.int .i64 q) := VX4.out.cell 1
      have y2 : X4.cell? ⟨gv, 2, none⟩ = some (.int .u64 x2) := VX4.out.cell 2
      have y3 : X4.cell? ⟨gv, 3, none⟩ = some (.int .u64 x1) := VX4.out.cell 3
      have y4 : X4.cell? ⟨gv, 4, none⟩ = some (.int .u64 f) := VX4.out.cell 4
      have y5 : X4.cell? ⟨gv, 5, none⟩ = some (.int .u64 g) := VX4.out.cell 5
      have y6 : X4.cell? ⟨gv, 6, none⟩ = some (.int .u64 h) := VX4.out.cell 6
      have y7 : X4.cell? ⟨gv, 7, none⟩ = some (.int .u64 i) := VX4.out.cell 7
      have z0 : X4.cell? ⟨gn, k * 8, none⟩ = some (.int .i64 p) := ed_cells AX4.out HKK.out 0 _ (by rw [HZ.out]; rfl)
      have q0 : X4.frozen? ⟨gn, k * 8, none⟩ = false := AX4.out.frozen _
      have z1 : X4.cell? ⟨gn, k * 8 + 1, none⟩ = some (.int .i64 q) := ed_cells AX4.out HKK.out 1 _ (by rw [HZ.out]; rfl)
      have q1 : X4.frozen? ⟨gn, k * 8 + 1, none⟩ = false := AX4.out.frozen _
      have z2 : X4.cell? ⟨gn, k * 8 + 2, none⟩ = some (.int .u64 c) := ed_cells AX4.out HKK.out 2 _ (by rw [HZ.out]; rfl)
      have q2 : X4.frozen? ⟨gn, k * 8 + 2, none⟩ = false := AX4.out.frozen _
      have z3 : X4.cell? ⟨gn, k * 8 + 3, none⟩ = some (.int .u64 d) := ed_cells AX4.out HKK.out 3 _ (by rw [HZ.out]; rfl)
      have q3 : X4.frozen? ⟨gn, k * 8 + 3, none⟩ = false := AX4.out.frozen _
      have z4 : X4.cell? ⟨gn, k * 8 + 4, none⟩ = some (.int .u64 f) := ed_cells AX4.out HKK.out 4 _ (by rw [HZ.out]; rfl)
      have q4 : X4.frozen? ⟨gn, k * 8 + 4, none⟩ = false := AX4.out.frozen _
      have z5 : X4.cell? ⟨gn, k * 8 + 5, none⟩ = some (.int .u64 g) := ed_cells AX4.out HKK.out 5 _ (by rw [HZ.out]; rfl)
      have q5 : X4.frozen? ⟨gn, k * 8 + 5, none⟩ = false := AX4.out.frozen _
      have z6 : X4.cell? ⟨gn, k * 8 + 6, none⟩ = some (.int .u64 h) := ed_cells AX4.out HKK.out 6 _ (by rw [HZ.out]; rfl)
      have q6 : X4.frozen? ⟨gn, k * 8 + 6, none⟩ = false := AX4.out.frozen _
      have z7 : X4.cell? ⟨gn, k * 8 + 7, none⟩ = some (.int .u64 i) := ed_cells AX4.out HKK.out 7 _ (by rw [HZ.out]; rfl)
      have q7 : X4.frozen? ⟨gn, k * 8 + 7, none⟩ = false := AX4.out.frozen _
      have hTA := TX4.out.ne_ AX4.out (by decide)
      have hRA := RX4.out.ne_ AX4.out (by decide)
      have AF : Hid (Blk ((((((((X4.setCell ⟨gn, k * 8, none⟩ (.int .i64 p)).setCell ⟨gn, k * 8 + 1, none⟩ (.int .i64 q)).setCell ⟨gn, k * 8 + 2, none⟩ (.int .u64 x2)).setCell ⟨gn, k * 8 + 3, none⟩ (.int .u64 x1)).setCell ⟨gn, k * 8 + 4, none⟩ (.int .u64 f)).setCell ⟨gn, k * 8 + 5, none⟩ (.int .u64 g)).setCell ⟨gn, k * 8 + 6, none⟩ (.int .u64 h)).setCell ⟨gn, k * 8 + 7, none⟩ (.int .u64 i)) gn 102 (eflat (es.set k ⟨p, q, x2, x1, f, g, h, i⟩) ++ sp)) := Lib.hid (row8 AX4.out HKK.out p q x2 x1 f g h i)
      have TF : Hid (Blk ((((((((X4.setCell ⟨gn, k * 8, none⟩ (.int .i64 p)).setCell ⟨gn, k * 8 + 1, none⟩ (.int .i64 q)).setCell ⟨gn, k * 8 + 2, none⟩ (.int .u64 x2)).setCell ⟨gn, k * 8 + 3, none⟩ (.int .u64 x1)).setCell ⟨gn, k * 8 + 4, none⟩ (.int .u64 f)).setCell ⟨gn, k * 8 + 5, none⟩ (.int .u64 g)).setCell ⟨gn, k * 8 + 6, none⟩ (.int .u64 h)).setCell ⟨gn, k * 8 + 7, none⟩ (.int .u64 i)) gt 25 [.slice sa sl sc, .slice (some ⟨gn, 0, none⟩) el cap]) := Lib.hid (((((((((TX4.out.far (p := ⟨gn, k * 8, none⟩) hTA _).far (p := ⟨gn, k * 8 + 1, none⟩) hTA _).far (p := ⟨gn, k * 8 + 2, none⟩) hTA _).far (p := ⟨gn, k * 8 + 3, none⟩) hTA _).far (p := ⟨gn, k * 8 + 4, none⟩) hTA _).far (p := ⟨gn, k * 8 + 5, none⟩) hTA _).far (p := ⟨gn, k * 8 + 6, none⟩) hTA _).far (p := ⟨gn, k * 8 + 7, none⟩) hTA _))
      have RF : Hid (Blk ((((((((X4.setCell ⟨gn, k * 8, none⟩ (.int .i64 p)).setCell ⟨gn, k * 8 + 1, none⟩ (.int .i64 q)).setCell ⟨gn, k * 8 + 2, none⟩ (.int .u64 x2)).setCell ⟨gn, k * 8 + 3, none⟩ (.int .u64 x1)).setCell ⟨gn, k * 8 + 4, none⟩ (.int .u64 f)).setCell ⟨gn, k * 8 + 5, none⟩ (.int .u64 g)).setCell ⟨gn, k * 8 + 6, none⟩ (.int .u64 h)).setCell ⟨gn, k * 8 + 7, none⟩ (.int .u64 i)) gr 25 [.slice none 0 0, .slice none 0 0]) := Lib.hid (((((((((RX4.out.far (p := ⟨gn, k * 8, none⟩) hRA _).far (p := ⟨gn, k * 8 + 1, none⟩) hRA _).far (p := ⟨gn, k * 8 + 2, none⟩) hRA _).far (p := ⟨gn, k * 8 + 3, none⟩) hRA _).far (p := ⟨gn, k * 8 + 4, none⟩) hRA _).far (p := ⟨gn, k * 8 + 5, none⟩) hRA _).far (p := ⟨gn, k * 8 + 6, none⟩) hRA _).far (p := ⟨gn, k * 8 + 7, none⟩) hRA _))
      have BF : Hid (Below w.heap.size w ((((((((X4.setCell ⟨gn, k * 8, none⟩ (.int .i64 p)).setCell ⟨gn, k * 8 + 1, none⟩ (.int .i64 q)).setCell ⟨gn, k * 8 + 2, none⟩ (.int .u64 x2)).setCell ⟨gn, k * 8 + 3, none⟩ (.int .u64 x1)).setCell ⟨gn, k * 8 + 4, none⟩ (.int .u64 f)).setCell ⟨gn, k * 8 + 5, none⟩ (.int .u64 g)).setCell ⟨gn, k * 8 + 6, none⟩ (.int .u64 h)).setCell ⟨gn, k * 8 + 7, none⟩ (.int .u64 i))) := Lib.hid (((((((((BX4.out.setCell (p := ⟨gn, k * 8, none⟩) hgn _).setCell (p := ⟨gn, k * 8 + 1, none⟩) hgn _).setCell (p := ⟨gn, k * 8 + 2, none⟩) hgn _).setCell (p := ⟨gn, k * 8 + 3, none⟩) hgn _).setCell (p := ⟨gn, k * 8 + 4, none⟩) hgn _).setCell (p := ⟨gn, k * 8 + 5, none⟩) hgn _).setCell (p := ⟨gn, k * 8 + 6, none⟩) hgn _).setCell (p := ⟨gn, k * 8 + 7, none⟩) hgn _))
      have r0 := RF.out.cell 0
      have r1 := RF.out.cell 1
      simp only [List.getElem?_cons_zero, List.getElem?_cons_succ] at r0 r1
      have r2 := RF.out.frozen 0
      have r3 := RF.out.frozen 1
      have t0 := TF.out.cell 0
      have t1 := TF.out.cell 1
      simp only [List.getElem?_cons_zero, List.getElem?_cons_succ] at t0 t1
      go_wp2_with fail
      have hGR : gn ≠ gr := AF.out.ne_ RF.out (by decide)
      exact bodyPost_ret (resultsR Try.results28 _ _ gr 25 sa (some ⟨gn, 0, none⟩) sl el sc cap _ rfl rfl (Blk.set_ (Blk.set_ RF.out 0 (.slice sa sl sc)) 1 (.slice (some ⟨gn, 0, none⟩) el cap))) rfl ⟨(BF.out.setCell (p := ⟨gr, 0, none⟩) hgr _).setCell (p := ⟨gr, 1, none⟩) hgr _, .inl ⟨HX.out, some ⟨gn, 0, none⟩, cap, rfl, (by rw [HSN.out]; exact row_of ((AF.out.far (p := ⟨gr, 0, none⟩) hGR _).far (p := ⟨gr, 1, none⟩) hGR _)), fun h => by cases h⟩⟩
    · refine step_new25 rfl rfl ?_
      intro X2 gt hB hT hgX
      have hgt : w.heap.size ≤ gt := Nat.le_trans BX1.out.size hgX
      have hPT : some gp ≠ some gt := fun e => by injection e with e; have := PX1.out.lt; omega
      have hRT : some gr ≠ some gt := fun e => by injection e with e; have := RX1.out.lt; omega
      have BX2 : Hid (Below w.heap.size w X2) := Lib.hid (BX1.out.trans (hB.mono BX1.out.size))
      have PX2 : Hid (Blk X2 gp 25 [.slice sa sl sc, .slice (some ⟨be, oe, none⟩) el ec]) := Lib.hid (PX1.out.below hB PX1.out.lt)
      have RX2 : Hid (Blk X2 gr 25 [.slice none 0 0, .slice none 0 0]) := Lib.hid (RX1.out.below hB RX1.out.lt)
      have VX2 : Hid (Blk X2 gv 102 [.int .i64 p, .int .i64 q, .int .u64 x2, .int .u64 x1, .int .u64 f, .int .u64 g, .int .u64 h, .int .u64 i]) := Lib.hid (VX1.out.below hB VX1.out.lt)
      have EX2 : Hid (Blk X2 gE 102 []) := Lib.hid (EX1.out.below hB EX1.out.lt)
      have TX2 : Hid (Blk X2 gt 25 [.slice none 0 0, .slice none 0 0]) := Lib.hid (hT)
      clear BX1 PX1 RX1 VX1 EX1 hB hT hgX
      refine hK.out _ _ (PX2.out) (fun hHeld => ?_)
      clear hK K
      show wpAnyH _ _ _ _ _ _ _ (Act.put _ (some 16) _) _
      simp only [Act.put, List.setIfInBounds_toArray, List.set_cons_zero, List.set_cons_succ]
      refine wpAnyH_ready (rs := [5]) (by kernel_rfl) (by simp) ?_
      refine AllReadyH.cons rfl (fun K hK => ?_) AllReadyH.nil
      refine step_app23 rfl (.tmp 93) (.tmp 95) rfl gE rfl EX2.out _ el ec rfl es HEL.out (HE0.out.below BX2.out) hel2 ?_
      intro X3 gn cap sp hO hA hat
      have hgO : w.heap.size ≤ gE := hgE
      have hPO : some gp ≠ some gE := fun e => PX2.out.ne_ EX2.out (by decide) (by injection e)
      have hRO : some gr ≠ some gE := fun e => RX2.out.ne_ EX2.out (by decide) (by injection e)
      have hVO := hVE
      have hgn : w.heap.size ≤ gn := by have := BX2.out.size; omega
      have hTO : some gt ≠ some gE := fun e => TX2.out.ne_ EX2.out (by decide) (by injection e)
      have BX3 : Hid (Below w.heap.size w X3) := Lib.hid (up_grown BX2.out hO hgO BX2.out.size)
      have PX3 : Hid (Blk X3 gp 25 [.slice sa sl sc, .slice (some ⟨be, oe, none⟩) el ec]) := Lib.hid (PX2.out.grown hO hPO)
      have RX3 : Hid (Blk X3 gr 25 [.slice none 0 0, .slice none 0 0]) := Lib.hid (RX2.out.grown hO hRO)
      have VX3 : Hid (Blk X3 gv 102 [.int .i64 p, .int .i64 q, .int .u64 x2, .int .u64 x1, .int .u64 f, .int .u64 g, .int .u64 h, .int .u64 i]) := Lib.hid (VX2.out.grown hO hVO)
      have TX3 : Hid (Blk X3 gt 25 [.slice none 0 0, .slice none 0 0]) := Lib.hid (TX2.out.grown hO hTO)
      have AX3 : Hid (Blk X3 gn 102 (eflat es ++ sp)) := Lib.hid (hA)
      clear BX2 PX2 RX2 VX2 TX2 hO hA
      refine hK.out _ _ (PX3.out) (fun hHeld => ?_)
      clear hK K
      show wpAnyH _ _ _ _ _ _ _ (Act.put _ (some 96) _) _
      simp only [Act.put, List.setIfInBounds_toArray, List.set_cons_zero, List.set_cons_succ]
      refine wpAnyH_take (i := 6) (v := .agg #[.slice sa sl sc, .slice (some ⟨gn, 0, none⟩) el cap]) rfl (by kernel_rfl) (by kernel_rfl) (by kernel_rfl) (fun _ _ _ h => h) (Or.inl ⟨by rfl, by intro w' h; kernel_rfl⟩) hHeld ?_
      show wpAnyH _ _ _ _ _ _ _ (Act.put _ (some 97) _) _
      simp only [Act.put, List.setIfInBounds_toArray, List.set_cons_zero, List.set_cons_succ]
      refine wpAnyH_ready (rs := [8]) (by kernel_rfl) (by simp) ?_
      refine AllReadyH.cons rfl (fun K hK => ?_) AllReadyH.nil
      refine step_store25 rfl (.tmp 16) (.tmp 97) rfl gt _ _ sa (some ⟨gn, 0, none⟩) sl sc el cap rfl rfl TX3.out ?_
      intro X4 hT hO
      have hgO := hgt
      have hPO := hPT
      have hRO := hRT
      have hVO : some gv ≠ some gt := fun e => VX3.out.ne_ TX3.out (by decide) (by injection e)
      have hAO : some gn ≠ some gt := fun e => AX3.out.ne_ TX3.out (by decide) (by injection e)
      have BX4 : Hid (Below w.heap.size w X4) := Lib.hid (up_grown BX3.out hO hgO BX3.out.size)
      have PX4 : Hid (Blk X4 gp 25 [.slice sa sl sc, .slice (some ⟨be, oe, none⟩) el ec]) := Lib.hid (PX3.out.grown hO hPO)
      have RX4 : Hid (Blk X4 gr 25 [.slice none 0 0, .slice none 0 0]) := Lib.hid (RX3.out.grown hO hRO)
      have VX4 : Hid (Blk X4 gv 102 [.int .i64 p, .int .i64 q, .int .u64 x2, .int .u64 x1, .int .u64 f, .int .u64 g, .int .u64 h, .int .u64 i]) := Lib.hid (VX3.out.grown hO hVO)
      have AX4 : Hid (Blk X4 gn 102 (eflat es ++ sp)) := Lib.hid (AX3.out.grown hO hAO)
      have TX4 : Hid (Blk X4 gt 25 [.slice sa sl sc, .slice (some ⟨gn, 0, none⟩) el cap]) := Lib.hid (hT)
      clear BX3 PX3 RX3 VX3 AX3 hO hT
      refine hK.out _ _ (PX4.out) (fun hHeld => ?_)
      clear hK K
      show wpAnyH _ _ _ _ _ _ _ (Act.put _ none _) _
      simp only [Act.put]
      refine wpAnyH_done (by kernel_rfl) ?_ _
      clear hHeld
      have c0 := TX4.out.cell 1
      simp only [List.getElem?_cons_zero, List.getElem?_cons_succ] at c0
      have y0 : X4.cell? ⟨gv, 0, none⟩ = some (.int .i64 p) := VX4.out.cell 0
      have y1 : X4.cell? ⟨gv, 1, none⟩ = some (.int .i64 q) := VX4.out.cell 1
      have y2 : X4.cell? ⟨gv, 2, none⟩ = some (.int .u64 x2) := VX4.out.cell 2
      have y3 : X4.cell? ⟨gv, 3, none⟩ = some (.int .u64 x1) := VX4.out.cell 3
      have y4 : X4.cell? ⟨gv, 4, none⟩ = some (.int .u64 f) := VX4.out.cell 4
      have y5 : X4.cell? ⟨gv, 5, none⟩ = some (.int .u64 g) := VX4.out.cell 5
      have y6 : X4.cell? ⟨gv, 6, none⟩ = some (.int .u64 h) := VX4.out.cell 6
      have y7 : X4.cell? ⟨gv, 7, none⟩ = some (.int .u64 i) := VX4.out.cell 7
      have z0 : X4.cell? ⟨gn, k * 8, none⟩ = some (.int .i64 p) := ed_cells AX4.out HKK.out 0 _ (by rw [HZ.out]; rfl)
      have q0 : X4.frozen? ⟨gn, k * 8, none⟩ = false := AX4.out.frozen _
      have z1 : X4.cell? ⟨gn, k * 8 + 1, none⟩ = some (.int .i64 q) := ed_cells AX4.out HKK.out 1 _ (by rw [HZ.out]; rfl)
      have q1 : X4.frozen? ⟨gn, k * 8 + 1, none⟩ = false := AX4.out.frozen _
      have z2 : X4.cell? ⟨gn, k * 8 + 2, none⟩ = some (.int .u64 c) := ed_cells AX4.out HKK.out 2 _ (by rw [HZ.out]; rfl)
      have q2 : X4.frozen? ⟨gn, k * 8 + 2, none⟩ = false := AX4.out.frozen _
      have z3 : X4.cell? ⟨gn, k * 8 + 3, none⟩ = some (.int .u64 d) := ed_cells AX4.out HKK.out 3 _ (by rw [HZ.out]; rfl)
      have q3 : X4.frozen? ⟨gn, k * 8 + 3, none⟩ = false := AX4.out.frozen _
      have z4 : X4.cell? ⟨gn, k * 8 + 4, none⟩ = some (.int .u64 f) := ed_cells AX4.out HKK.out 4 _ (by rw [HZ.out]; rfl)
      have q4 : X4.frozen? ⟨gn, k * 8 + 4, none⟩ = false := AX4.out.frozen _
      have z5 : X4.cell? ⟨gn, k * 8 + 5, none⟩ = some (.int .u64 g) := ed_cells AX4.out HKK.out 5 _ (by rw [HZ.out]; rfl)
      have q5 : X4.frozen? ⟨gn, k * 8 + 5, none⟩ = false := AX4.out.frozen _
      have z6 : X4.cell? ⟨gn, k * 8 + 6, none⟩ = some (.int .u64 h) := ed_cells AX4.out HKK.out 6 _ (by rw [HZ.out]; rfl)
      have q6 : X4.frozen? ⟨gn, k * 8 + 6, none⟩ = false := AX4.out.frozen _
      have z7 : X4.cell? ⟨gn, k * 8 + 7, none⟩ = some (.int .u64 i) := ed_cells AX4.out HKK.out 7 _ (by rw [HZ.out]; rfl)
      have q7 : X4.frozen? ⟨gn, k * 8 + 7, none⟩ = false := AX4.out.frozen _
      have hTA := TX4.out.ne_ AX4.out (by decide)
      have hRA := RX4.out.ne_ AX4.out (by decide)
      have AF : Hid (Blk ((((((((X4.setCell ⟨gn, k * 8, none⟩ (.int .i64 p)).setCell ⟨gn, k * 8 + 1, none⟩ (.int .i64 q)).setCell ⟨gn, k * 8 + 2, none⟩ (.int .u64 x2)).setCell ⟨gn, k * 8 + 3, none⟩ (.int .u64 x1)).setCell ⟨gn, k * 8 + 4, none⟩ (.int .u64 f)).setCell ⟨gn, k * 8 + 5, none⟩ (.int .u64 g)).setCell ⟨gn, k * 8 + 6, none⟩ (.int .u64 h)).setCell ⟨gn, k * 8 + 7, none⟩ (.int .u64 i)) gn 102 (eflat (es.set k ⟨p, q, x2, x1, f, g, h, i⟩) ++ sp)) := Lib.hid (row8 AX4.out HKK.out p q x2 x1 f g h i)
      have TF : Hid (Blk ((((((((X4.setCell ⟨gn, k * 8, none⟩ (.int .i64 p)).setCell ⟨gn, k * 8 + 1, none⟩ (.int .i64 q)).setCell ⟨gn, k * 8 + 2, none⟩ (.int .u64 x2)).setCell ⟨gn, k * 8 + 3, none⟩ (.int .u64 x1)).setCell ⟨gn, k * 8 + 4, none⟩ (.int .u64 f)).setCell ⟨gn, k * 8 + 5, none⟩ (.int .u64 g)).setCell ⟨gn, k * 8 + 6, none⟩ (.int .u64 h)).setCell ⟨gn, k * 8 + 7, none⟩ (.int .u64 i)) gt 25 [.slice sa sl sc, .slice (some ⟨gn, 0, none⟩) el cap]) := Lib.hid (((((((((TX4.out.far (p := ⟨gn, k * 8, none⟩) hTA _).far (p := ⟨gn, k * 8 + 1, none⟩) hTA _).far (p := ⟨gn, k * 8 + 2, none⟩) hTA _).far (p := ⟨gn, k * 8 + 3, none⟩) hTA _).far (p := ⟨gn, k * 8 + 4, none⟩) hTA _).far (p := ⟨gn, k * 8 + 5, none⟩) hTA _).far (p := ⟨gn, k * 8 + 6, none⟩) hTA _).far (p := ⟨gn, k * 8 + 7, none⟩) hTA _))
      have RF : Hid (Blk ((((((((X4.setCell ⟨gn, k * 8, none⟩ (.int .i64 p)).setCell ⟨gn, k * 8 + 1, none⟩ (.int .i64 q)).setCell ⟨gn, k * 8 + 2, none⟩ (.int .u64 x2)).setCell ⟨gn, k * 8 + 3, none⟩ (.int .u64 x1)).setCell ⟨gn, k * 8 + 4, none⟩ (.int .u64 f)).setCell ⟨gn, k * 8 + 5, none⟩ (.int .u64 g)).setCell ⟨gn, k * 8 + 6, none⟩ (.int .u64 h)).setCell ⟨gn, k * 8 + 7, none⟩ (.int .u64 i)) gr 25 [.slice none 0 0, .slice none 0 0]) := Lib.hid (((((((((RX4.out.far (p := ⟨gn, k * 8, none⟩) hRA _).far (p := ⟨gn, k * 8 + 1, none⟩) hRA _).far (p := ⟨gn, k * 8 + 2, none⟩) hRA _).far (p := ⟨gn, k * 8 + 3, none⟩) hRA _).far (p := ⟨gn, k * 8 + 4, none⟩) hRA _).far (p := ⟨gn, k * 8 + 5, none⟩) hRA _).far (p := ⟨gn, k * 8 + 6, none⟩) hRA _).far (p := ⟨gn, k * 8 + 7, none⟩) hRA _))
      have BF : Hid (Below w.heap.size w ((((((((X4.setCell ⟨gn, k * 8, none⟩ (.int .i64 p)).setCell ⟨gn, k * 8 + 1, none⟩ (.int .i64 q)).setCell ⟨gn, k * 8 + 2, none⟩ (.int .u64 x2)).setCell ⟨gn, k * 8 + 3, none⟩ (.int .u64 x1)).setCell ⟨gn, k * 8 + 4, none⟩ (.int .u64 f)).setCell ⟨gn, k * 8 + 5, none⟩ (.int .u64 g)).setCell ⟨gn, k * 8 + 6, none⟩ (.int .u64 h)).setCell ⟨gn, k * 8 + 7, none⟩ (.int .u64 i))) := Lib.hid (((((((((BX4.out.setCell (p := ⟨gn, k * 8, none⟩) hgn _).setCell (p := ⟨gn, k * 8 + 1, none⟩) hgn _).setCell (p := ⟨gn, k * 8 + 2, none⟩) hgn _).setCell (p := ⟨gn, k * 8 + 3, none⟩) hgn _).setCell (p := ⟨gn, k * 8 + 4, none⟩) hgn _).setCell (p := ⟨gn, k * 8 + 5, none⟩) hgn _).setCell (p := ⟨gn, k * 8 + 6, none⟩) hgn _).setCell (p := ⟨gn, k * 8 + 7, none⟩) hgn _))
      have r0 := RF.out.cell 0
      have r1 := RF.out.cell 1
      simp only [List.getElem?_cons_zero, List.getElem?_cons_succ] at r0 r1
      have r2 := RF.out.frozen 0
      have r3 := RF.out.frozen 1
      have t0 := TF.out.cell 0
      have t1 := TF.out.cell 1
      simp only [List.getElem?_cons_zero, List.getElem?_cons_succ] at t0 t1
      go_wp2_with fail
      have hGR : gn ≠ gr := AF.out.ne_ RF.out (by decide)
      exact bodyPost_ret (resultsR Try.results28 _ _ gr 25 sa (some ⟨gn, 0, none⟩) sl el sc cap _ rfl rfl (Blk.set_ (Blk.set_ RF.out 0 (.slice sa sl sc)) 1 (.slice (some ⟨gn, 0, none⟩) el cap))) rfl ⟨(BF.out.setCell (p := ⟨gr, 0, none⟩) hgr _).setCell (p := ⟨gr, 1, none⟩) hgr _, .inl ⟨HX.out, some ⟨gn, 0, none⟩, cap, rfl, (by rw [HSN.out]; exact row_of ((AF.out.far (p := ⟨gr, 0, none⟩) hGR _).far (p := ⟨gr, 1, none⟩) hGR _)), fun h => by cases h⟩⟩
  · refine step_new25 rfl rfl ?_
    intro X1 gt hB hT hgX
    have hgt : w.heap.size ≤ gt := Nat.le_trans BX0.out.size hgX
    have hPT : some gp ≠ some gt := fun e => by injection e with e; have := PX0.out.lt; omega
    have hRT : some gr ≠ some gt := fun e => by injection e with e; have := RX0.out.lt; omega
    have BX1 : Hid (Below w.heap.size w X1) := Lib.hid (BX0.out.trans (hB.mono BX0.out.size))
    have PX1 : Hid (Blk X1 gp 25 [.slice sa sl sc, .slice (some ⟨be, oe, none⟩) el ec]) := Lib.hid (PX0.out.below hB PX0.out.lt)
    have RX1 : Hid (Blk X1 gr 25 [.slice none 0 0, .slice none 0 0]) := Lib.hid (RX0.out.below hB RX0.out.lt)
    have VX1 : Hid (Blk X1 gv 102 [.int .i64 p, .int .i64 q, .int .u64 x2, .int .u64 x1, .int .u64 f, .int .u64 g, .int .u64 h, .int .u64 i]) := Lib.hid (VX0.out.below hB VX0.out.lt)
    have TX1 : Hid (Blk X1 gt 25 [.slice none 0 0, .slice none 0 0]) := Lib.hid (hT)
    clear BX0 PX0 RX0 VX0 hB hT hgX
    refine hK.out _ _ (PX1.out) (fun hHeld => ?_)
    clear hK K
    show wpAnyH _ _ _ _ _ _ _ (Act.put _ (some 16) _) _
    simp only [Act.put, List.setIfInBounds_toArray, List.set_cons_zero, List.set_cons_succ]
    refine wpAnyH_ready (rs := [2]) (by kernel_rfl) (by simp) ?_
    refine AllReadyH.cons rfl (fun K hK => ?_) AllReadyH.nil
    refine step_lay23 rfl rfl ?_
    intro X2 gE hB hE hgX
    have hgE : w.heap.size ≤ gE := Nat.le_trans BX1.out.size hgX
    have hVE : some gv ≠ some gE := fun e => by injection e with e; have := VX1.out.lt; omega
    have BX2 : Hid (Below w.heap.size w X2) := Lib.hid (BX1.out.trans (hB.mono BX1.out.size))
    have PX2 : Hid (Blk X2 gp 25 [.slice sa sl sc, .slice (some ⟨be, oe, none⟩) el ec]) := Lib.hid (PX1.out.below hB PX1.out.lt)
    have RX2 : Hid (Blk X2 gr 25 [.slice none 0 0, .slice none 0 0]) := Lib.hid (RX1.out.below hB RX1.out.lt)
    have VX2 : Hid (Blk X2 gv 102 [.int .i64 p, .int .i64 q, .int .u64 x2, .int .u64 x1, .int .u64 f, .int .u64 g, .int .u64 h, .int .u64 i]) := Lib.hid (VX1.out.below hB VX1.out.lt)
    have TX2 : Hid (Blk X2 gt 25 [.slice none 0 0, .slice none 0 0]) := Lib.hid (TX1.out.below hB TX1.out.lt)
    have EX2 : Hid (Blk X2 gE 102 []) := Lib.hid (hE)
    clear BX1 PX1 RX1 VX1 TX1 hB hE hgX
    refine hK.out _ _ (PX2.out) (fun hHeld => ?_)
    clear hK K
    show wpAnyH _ _ _ _ _ _ _ (Act.put _ (some 93) _) _
    simp only [Act.put, List.setIfInBounds_toArray, List.set_cons_zero, List.set_cons_succ]
    refine wpAnyH_ready (rs := [5]) (by kernel_rfl) (by simp) ?_
    refine AllReadyH.cons rfl (fun K hK => ?_) AllReadyH.nil
    refine step_app23 rfl (.tmp 93) (.tmp 95) rfl gE rfl EX2.out _ el ec rfl es HEL.out (HE0.out.below BX2.out) hel2 ?_
    intro X3 gn cap sp hO hA hat
    have hgO : w.heap.size ≤ gE := hgE
    have hPO : some gp ≠ some gE := fun e => PX2.out.ne_ EX2.out (by decide) (by injection e)
    have hRO : some gr ≠ some gE := fun e => RX2.out.ne_ EX2.out (by decide) (by injection e)
    have hVO := hVE
    have hgn : w.heap.size ≤ gn := by have := BX2.out.size; omega
    have hTO : some gt ≠ some gE := fun e => TX2.out.ne_ EX2.out (by decide) (by injection e)
    have BX3 : Hid (Below w.heap.size w X3) := Lib.hid (up_grown BX2.out hO hgO BX2.out.size)
    have PX3 : Hid (Blk X3 gp 25 [.slice sa sl sc, .slice (some ⟨be, oe, none⟩) el ec]) := Lib.hid (PX2.out.grown hO hPO)
    have RX3 : Hid (Blk X3 gr 25 [.slice none 0 0, .slice none 0 0]) := Lib.hid (RX2.out.grown hO hRO)
    have VX3 : Hid (Blk X3 gv 102 [.int .i64 p, .int .i64 q, .int .u64 x2, .int .u64 x1, .int .u64 f, .int .u64 g, .int .u64 h, .int .u64 i]) := Lib.hid (VX2.out.grown hO hVO)
    have TX3 : Hid (Blk X3 gt 25 [.slice none 0 0, .slice none 0 0]) := Lib.hid (TX2.out.grown hO hTO)
    have AX3 : Hid (Blk X3 gn 102 (eflat es ++ sp)) := Lib.hid (hA)
    clear BX2 PX2 RX2 VX2 TX2 hO hA
    refine hK.out _ _ (PX3.out) (fun hHeld => ?_)
    clear hK K
    show wpAnyH _ _ _ _ _ _ _ (Act.put _ (some 96) _) _
    simp only [Act.put, List.setIfInBounds_toArray, List.set_cons_zero, List.set_cons_succ]
    refine wpAnyH_take (i := 6) (v := .agg #[.slice sa sl sc, .slice (some ⟨gn, 0, none⟩) el cap]) rfl (by kernel_rfl) (by kernel_rfl) (by kernel_rfl) (fun _ _ _ h => h) (Or.inl ⟨by rfl, by intro w' h; kernel_rfl⟩) hHeld ?_
    show wpAnyH _ _ _ _ _ _ _ (Act.put _ (some 97) _) _
    simp only [Act.put, List.setIfInBounds_toArray, List.set_cons_zero, List.set_cons_succ]
    refine wpAnyH_ready (rs := [8]) (by kernel_rfl) (by simp) ?_
    refine AllReadyH.cons rfl (fun K hK => ?_) AllReadyH.nil
    refine step_store25 rfl (.tmp 16) (.tmp 97) rfl gt _ _ sa (some ⟨gn, 0, none⟩) sl sc el cap rfl rfl TX3.out ?_
    intro X4 hT hO
    have hgO := hgt
    have hPO := hPT
    have hRO := hRT
    have hVO : some gv ≠ some gt := fun e => VX3.out.ne_ TX3.out (by decide) (by injection e)
    have hAO : some gn ≠ some gt := fun e => AX3.out.ne_ TX3.out (by decide) (by injection e)
    have BX4 : Hid (Below w.heap.size w X4) := Lib.hid (up_grown BX3.out hO hgO BX3.out.size)
    have PX4 : Hid (Blk X4 gp 25 [.slice sa sl sc, .slice (some ⟨be, oe, none⟩) el ec]) := Lib.hid (PX3.out.grown hO hPO)
    have RX4 : Hid (Blk X4 gr 25 [.slice none 0 0, .slice none 0 0]) := Lib.hid (RX3.out.grown hO hRO)
    have VX4 : Hid (Blk X4 gv 102 [.int .i64 p, .int .i64 q, .int .u64 x2, .int .u64 x1, .int .u64 f, .int .u64 g, .int .u64 h, .int .u64 i]) := Lib.hid (VX3.out.grown hO hVO)
    have AX4 : Hid (Blk X4 gn 102 (eflat es ++ sp)) := Lib.hid (AX3.out.grown hO hAO)
    have TX4 : Hid (Blk X4 gt 25 [.slice sa sl sc, .slice (some ⟨gn, 0, none⟩) el cap]) := Lib.hid (hT)
    clear BX3 PX3 RX3 VX3 AX3 hO hT
    refine hK.out _ _ (PX4.out) (fun hHeld => ?_)
    clear hK K
    show wpAnyH _ _ _ _ _ _ _ (Act.put _ none _) _
    simp only [Act.put]
    refine wpAnyH_done (by kernel_rfl) ?_ _
    clear hHeld
    have c0 := TX4.out.cell 1
    simp only [List.getElem?_cons_zero, List.getElem?_cons_succ] at c0
    have y0 : X4.cell? ⟨gv, 0, none⟩ = some (.int .i64 p) := VX4.out.cell 0
    have y1 : X4.cell? ⟨gv, 1, none⟩ = some (.int .i64 q) := VX4.out.cell 1
    have y2 : X4.cell? ⟨gv, 2, none⟩ = some (.int .u64 x2) := VX4.out.cell 2
    have y3 : X4.cell? ⟨gv, 3, none⟩ = some (.int .u64 x1) := VX4.out.cell 3
    have y4 : X4.cell? ⟨gv, 4, none⟩ = some (.int .u64 f) := VX4.out.cell 4
    have y5 : X4.cell? ⟨gv, 5, none⟩ = some (.int .u64 g) := VX4.out.cell 5
    have y6 : X4.cell? ⟨gv, 6, none⟩ = some (.int .u64 h) := VX4.out.cell 6
    have y7 : X4.cell? ⟨gv, 7, none⟩ = some (.int .u64 i) := VX4.out.cell 7
    have z0 : X4.cell? ⟨gn, k * 8, none⟩ = some (.int .i64 p) := ed_cells AX4.out HKK.out 0 _ (by rw [HZ.out]; rfl)
    have q0 : X4.frozen? ⟨gn, k * 8, none⟩ = false := AX4.out.frozen _
    have z1 : X4.cell? ⟨gn, k * 8 + 1, none⟩ = some (.int .i64 q) := ed_cells AX4.out HKK.out 1 _ (by rw [HZ.out]; rfl)
    have q1 : X4.frozen? ⟨gn, k * 8 + 1, none⟩ = false := AX4.out.frozen _
    have z2 : X4.cell? ⟨gn, k * 8 + 2, none⟩ = some (.int .u64 c) := ed_cells AX4.out HKK.out 2 _ (by rw [HZ.out]; rfl)
    have q2 : X4.frozen? ⟨gn, k * 8 + 2, none⟩ = false := AX4.out.frozen _
    have z3 : X4.cell? ⟨gn, k * 8 + 3, none⟩ = some (.int .u64 d) := ed_cells AX4.out HKK.out 3 _ (by rw [HZ.out]; rfl)
    have q3 : X4.frozen? ⟨gn, k * 8 + 3, none⟩ = false := AX4.out.frozen _
    have z4 : X4.cell? ⟨gn, k * 8 + 4, none⟩ = some (.int .u64 f) := ed_cells AX4.out HKK.out 4 _ (by rw [HZ.out]; rfl)
    have q4 : X4.frozen? ⟨gn, k * 8 + 4, none⟩ = false := AX4.out.frozen _
    have z5 : X4.cell? ⟨gn, k * 8 + 5, none⟩ = some (.int .u64 g) := ed_cells AX4.out HKK.out 5 _ (by rw [HZ.out]; rfl)
    have q5 : X4.frozen? ⟨gn, k * 8 + 5, none⟩ = false := AX4.out.frozen _
    have z6 : X4.cell? ⟨gn, k * 8 + 6, none⟩ = some (.int .u64 h) := ed_cells AX4.out HKK.out 6 _ (by rw [HZ.out]; rfl)
    have q6 : X4.frozen? ⟨gn, k * 8 + 6, none⟩ = false := AX4.out.frozen _
    have z7 : X4.cell? ⟨gn, k * 8 + 7, none⟩ = some (.int .u64 i) := ed_cells AX4.out HKK.out 7 _ (by rw [HZ.out]; rfl)
    have q7 : X4.frozen? ⟨gn, k * 8 + 7, none⟩ = false := AX4.out.frozen _
    have hTA := TX4.out.ne_ AX4.out (by decide)
    have hRA := RX4.out.ne_ AX4.out (by decide)
    have AF : Hid (Blk ((((((((X4.setCell ⟨gn, k * 8, none⟩ (.int .i64 p)).setCell ⟨gn, k * 8 + 1, none⟩ (.int .i64 q)).setCell ⟨gn, k * 8 + 2, none⟩ (.int .u64 x2)).setCell ⟨gn, k * 8 + 3, none⟩ (.int .u64 x1)).setCell ⟨gn, k * 8 + 4, none⟩ (.int .u64 f)).setCell ⟨gn, k * 8 + 5, none⟩ (.int .u64 g)).setCell ⟨gn, k * 8 + 6, none⟩ (.int .u64 h)).setCell ⟨gn, k * 8 + 7, none⟩ (.int .u64 i)) gn 102 (eflat (es.set k ⟨p, q, x2, x1, f, g, h, i⟩) ++ sp)) := Lib.hid (row8 AX4.out HKK.out p q x2 x1 f g h i)
    have TF : Hid (Blk ((((((((X4.setCell ⟨gn, k * 8, none⟩ (.int .i64 p)).setCell ⟨gn, k * 8 + 1, none⟩ (.int .i64 q)).setCell ⟨gn, k * 8 + 2, none⟩ (.int .u64 x2)).setCell ⟨gn, k * 8 + 3, none⟩ (.int .u64 x1)).setCell ⟨gn, k * 8 + 4, none⟩ (.int .u64 f)).setCell ⟨gn, k * 8 + 5, none⟩ (.int .u64 g)).setCell ⟨gn, k * 8 + 6, none⟩ (.int .u64 h)).setCell ⟨gn, k * 8 + 7, none⟩ (.int .u64 i)) gt 25 [.slice sa sl sc, .slice (some ⟨gn, 0, none⟩) el cap]) := Lib.hid (((((((((TX4.out.far (p := ⟨gn, k * 8, none⟩) hTA _).far (p := ⟨gn, k * 8 + 1, none⟩) hTA _).far (p := ⟨gn, k * 8 + 2, none⟩) hTA _).far (p := ⟨gn, k * 8 + 3, none⟩) hTA _).far (p := ⟨gn, k * 8 + 4, none⟩) hTA _).far (p := ⟨gn, k * 8 + 5, none⟩) hTA _).far (p := ⟨gn, k * 8 + 6, none⟩) hTA _).far (p := ⟨gn, k * 8 + 7, none⟩) hTA _))
    have RF : Hid (Blk ((((((((X4.setCell ⟨gn, k * 8, none⟩ (.int .i64 p)).setCell ⟨gn, k * 8 + 1, none⟩ (.int .i64 q)).setCell ⟨gn, k * 8 + 2, none⟩ (.int .u64 x2)).setCell ⟨gn, k * 8 + 3, none⟩ (.int .u64 x1)).setCell ⟨gn, k * 8 + 4, none⟩ (.int .u64 f)).setCell ⟨gn, k * 8 + 5, none⟩ (.int .u64 g)).setCell ⟨gn, k * 8 + 6, none⟩ (.int .u64 h)).setCell ⟨gn, k * 8 + 7, none⟩ (.int .u64 i)) gr 25 [.slice none 0 0, .slice none 0 0]) := Lib.hid (((((((((RX4.out.far (p := ⟨gn, k * 8, none⟩) hRA _).far (p := ⟨gn, k * 8 + 1, none⟩) hRA _).far (p := ⟨gn, k * 8 + 2, none⟩) hRA _).far (p := ⟨gn, k * 8 + 3, none⟩) hRA _).far (p := ⟨gn, k * 8 + 4, none⟩) hRA _).far (p := ⟨gn, k * 8 + 5, none⟩) hRA _).far (p := ⟨gn, k * 8 + 6, none⟩) hRA _).far (p := ⟨gn, k * 8 + 7, none⟩) hRA _))
    have BF : Hid (Below w.heap.size w ((((((((X4.setCell ⟨gn, k * 8, none⟩ (.int .i64 p)).setCell ⟨gn, k * 8 + 1, none⟩ (.int .i64 q)).setCell ⟨gn, k * 8 + 2, none⟩ (.int .u64 x2)).setCell ⟨gn, k * 8 + 3, none⟩ (.int .u64 x1)).setCell ⟨gn, k * 8 + 4, none⟩ (.int .u64 f)).setCell ⟨gn, k * 8 + 5, none⟩ (.int .u64 g)).setCell ⟨gn, k * 8 + 6, none⟩ (.int .u64 h)).setCell ⟨gn, k * 8 + 7, none⟩ (.int .u64 i))) := Lib.hid (((((((((BX4.out.setCell (p := ⟨gn, k * 8, none⟩) hgn _).setCell (p := ⟨gn, k * 8 + 1, none⟩) hgn _).setCell (p := ⟨gn, k * 8 + 2, none⟩) hgn _).setCell (p := ⟨gn, k * 8 + 3, none⟩) hgn _).setCell (p := ⟨gn, k * 8 + 4, none⟩) hgn _).setCell (p := ⟨gn, k * 8 + 5, none⟩) hgn _).setCell (p := ⟨gn, k * 8 + 6, none⟩) hgn _).setCell (p := ⟨gn, k * 8 + 7, none⟩) hgn _))
    have r0 := RF.out.cell 0
    have r1 := RF.out.cell 1
    simp only [List.getElem?_cons_zero, List.getElem?_cons_succ] at r0 r1
    have r2 := RF.out.frozen 0
    have r3 := RF.out.frozen 1
    have t0 := TF.out.cell 0
    have t1 := TF.out.cell 1
    simp only [List.getElem?_cons_zero, List.getElem?_cons_succ] at t0 t1
    go_wp2_with fail
    have hGR : gn ≠ gr := AF.out.ne_ RF.out (by decide)
    exact bodyPost_ret (resultsR Try.results28 _ _ gr 25 sa (some ⟨gn, 0, none⟩) sl el sc cap _ rfl rfl (Blk.set_ (Blk.set_ RF.out 0 (.slice sa sl sc)) 1 (.slice (some ⟨gn, 0, none⟩) el cap))) rfl ⟨(BF.out.setCell (p := ⟨gr, 0, none⟩) hgr _).setCell (p := ⟨gr, 1, none⟩) hgr _, .inl ⟨HX.out, some ⟨gn, 0, none⟩, cap, rfl, (by rw [HSN.out]; exact row_of ((AF.out.far (p := ⟨gr, 0, none⟩) hGR _).far (p := ⟨gr, 1, none⟩) hGR _)), fun h => by cases h⟩⟩

theorem rsent_any (sa : Option Addr) (sl sc : Nat) (ea : Option Addr) (el ec : Nat) (es : List Ed) (edge node amt : Int) (w : World) (hE : EdgeRow w ea es) (hel : es.length = el) (hel2 : el ≤ 100) (hsl2 : sl ≤ 1000) (hok : ∀ e ∈ es, EdOk e) (hamt : Word amt) :
    Calls Try.prog 28 #[.agg #[.slice sa sl sc, .slice ea el ec], .int .i64 edge, .int .i64 node, .int .u64 amt] w (RSent w sa sl sc el es edge node amt) := by
  by_cases hc : checkE sl es = 0
  · by_cases h0 : edge < 0
    · exact rsent_neg sa sl sc ea el ec es edge node amt w hE hel hel2 hsl2 hok hamt hc h0
    · by_cases h1 : (el : Int) ≤ edge
      · exact rsent_big sa sl sc ea el ec es edge node amt w hE hel hel2 hsl2 hok hamt hc h1
      · obtain ⟨p, q, c, d, f, g, h, i, hz⟩ : ∃ p q c d f g h i, es.getD edge.toNat ed0 = ⟨p, q, c, d, f, g, h, i⟩ := ⟨_, _, _, _, _, _, _, _, rfl⟩
        have hk : edge.toNat < el := by omega
        have he : edge = (edge.toNat : Int) := by omega
        have hgd := (good_of hc).1 _ (ed_mem es edge.toNat (by omega))
        rw [hz] at hgd
        have hpq : p ≠ q := hgd.2.2
        by_cases hp : p = node
        · have hq : ¬ q = node := fun h => hpq (hp.trans h.symm)
          by_cases h2 : c < amt
          · exact rsent_few0 sa sl sc ea el ec es edge node amt w hE hel hel2 hsl2 hok hamt edge.toNat p q c d f g h i hk he hc hz hp hq h2
          · by_cases h3 : d + amt < 18446744073709551616
            · exact rsent_good0 sa sl sc ea el ec es edge node amt w hE hel hel2 hsl2 hok hamt edge.toNat p q c d f g h i hk he hc hz hp hq (by omega) h3
            · exact rsent_much0 sa sl sc ea el ec es edge node amt w hE hel hel2 hsl2 hok hamt edge.toNat p q c d f g h i hk he hc hz hp hq (by omega) (by omega)
        · by_cases hq : q = node
          · by_cases h2 : d < amt
            · exact rsent_few1 sa sl sc ea el ec es edge node amt w hE hel hel2 hsl2 hok hamt edge.toNat p q c d f g h i hk he hc hz hp hq h2
            · by_cases h3 : c + amt < 18446744073709551616
              · exact rsent_good1 sa sl sc ea el ec es edge node amt w hE hel hel2 hsl2 hok hamt edge.toNat p q c d f g h i hk he hc hz hp hq (by omega) h3
              · exact rsent_much1 sa sl sc ea el ec es edge node amt w hE hel hel2 hsl2 hok hamt edge.toNat p q c d f g h i hk he hc hz hp hq (by omega) (by omega)
          · exact rsent_side sa sl sc ea el ec es edge node amt w hE hel hel2 hsl2 hok hamt edge.toNat p q c d f g h i hk he hc hz hp hq
  · exact rsent_check sa sl sc ea el ec es edge node amt w hE hel hel2 hsl2 hok hamt hc
end Go.Proofs.Ytnnimjaigciedaa
