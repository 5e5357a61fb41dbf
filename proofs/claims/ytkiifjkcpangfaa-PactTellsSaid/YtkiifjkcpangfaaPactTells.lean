/-
  tollhouselaw12.PactTells returns true for every input: of any state: what a side holds, has free, whether the state may be, where a payment is, and whether two are one, are the document's; what is handed in isn't written.
-/
import Derived.Test.YtkiifjkcpangfaaPacX
namespace Go.Proofs.Ytkiifjkcpangfaa.pactTells
open Go.ChangeShapes Go.WideShapes Go.ChangeAt Go.RowKit Go.Deep
set_option linter.unusedVariables false

theorem heldGo_zero (side : Int) : ∀ (cs : List Cnd) (s : Int), (heldGo side s cs).2 ≠ 0 → (heldGo side s cs).1 = 0
  | [], s, h => absurd rfl h
  | c :: r, s, h => by
    rw [heldGo] at h ⊢
    split at h
    · rename_i h1
      rw [if_pos h1]
      split at h
      · rename_i h2; rw [if_pos h2]; exact heldGo_zero side r _ h
      · rename_i h2; rw [if_neg h2]
    · rename_i h1; rw [if_neg h1]; exact heldGo_zero side r _ h
theorem held_zero {side : Int} {cs : List Cnd} (h : heldE side cs ≠ 0) : heldV side cs = 0 := heldGo_zero side cs 0 h

set_option maxRecDepth 100000 in
set_option maxHeartbeats 4000000 in
theorem walk (s t : St) (a a2 : Option Addr) (n n2 cap cap2 : Nat) (p0 p1 side id : Int) (w : World) (hC : CRow w a s.cs) (hl : s.cs.length = n) (hO : s.Ok) (hD : CRow w a2 t.cs) (hl2 : t.cs.length = n2) (hp0 : Word p0) (hp1 : Word p1) :
    Calls Try.prog 3 #[.agg #[.int .u32 s.ch, .int .u64 s.rd, .int .u64 s.m0, .int .u64 s.m1, .int .u64 s.t0, .int .u64 s.t1, .slice a n cap], .agg #[.int .u32 t.ch, .int .u64 t.rd, .int .u64 t.m0, .int .u64 t.m1, .int .u64 t.t0, .int .u64 t.t1, .slice a2 n2 cap2], .agg #[.int .u64 p0, .int .u64 p1], .int .i64 side, .int .u64 id] w fun e w' => e = .returned (.bool true) ∧ Below w.heap.size w w' := by
  have HC := Lib.hid hC
  have HL := Lib.hid hl
  have HO := Lib.hid hO
  have HD := Lib.hid hD
  have HL2 := Lib.hid hl2
  have BA : Hid (Below w.heap.size w (((w.alloc (.cells #[.int .u32 s.ch, .int .u64 s.rd, .int .u64 s.m0, .int .u64 s.m1, .int .u64 s.t0, .int .u64 s.t1, .slice a n cap] 27)).alloc (.cells #[.int .u32 t.ch, .int .u64 t.rd, .int .u64 t.m0, .int .u64 t.m1, .int .u64 t.t0, .int .u64 t.t1, .slice a2 n2 cap2] 27)).alloc (.cells #[.int .u64 p0, .int .u64 p1] 24))) := Lib.hid ((((Below.refl _ _).alloc (Nat.le_refl _) _).alloc (by simp) _).alloc (by simp; omega) _)
  have SA : Hid (Blk (((w.alloc (.cells #[.int .u32 s.ch, .int .u64 s.rd, .int .u64 s.m0, .int .u64 s.m1, .int .u64 s.t0, .int .u64 s.t1, .slice a n cap] 27)).alloc (.cells #[.int .u32 t.ch, .int .u64 t.rd, .int .u64 t.m0, .int .u64 t.m1, .int .u64 t.t0, .int .u64 t.t1, .slice a2 n2 cap2] 27)).alloc (.cells #[.int .u64 p0, .int .u64 p1] 24)) w.heap.size 27 [.int .u32 s.ch, .int .u64 s.rd, .int .u64 s.m0, .int .u64 s.m1, .int .u64 s.t0, .int .u64 s.t1, .slice a n cap]) := Lib.hid (((Blk.mk_ rfl).alloc _).alloc _)
  have TA : Hid (Blk (((w.alloc (.cells #[.int .u32 s.ch, .int .u64 s.rd, .int .u64 s.m0, .int .u64 s.m1, .int .u64 s.t0, .int .u64 s.t1, .slice a n cap] 27)).alloc (.cells #[.int .u32 t.ch, .int .u64 t.rd, .int .u64 t.m0, .int .u64 t.m1, .int .u64 t.t0, .int .u64 t.t1, .slice a2 n2 cap2] 27)).alloc (.cells #[.int .u64 p0, .int .u64 p1] 24)) (w.heap.size + 1) 27 [.int .u32 t.ch, .int .u64 t.rd, .int .u64 t.m0, .int .u64 t.m1, .int .u64 t.t0, .int .u64 t.t1, .slice a2 n2 cap2]) := Lib.hid ((Blk.mk_ (by simp)).alloc _)
  have PA : Hid (Blk (((w.alloc (.cells #[.int .u32 s.ch, .int .u64 s.rd, .int .u64 s.m0, .int .u64 s.m1, .int .u64 s.t0, .int .u64 s.t1, .slice a n cap] 27)).alloc (.cells #[.int .u32 t.ch, .int .u64 t.rd, .int .u64 t.m0, .int .u64 t.m1, .int .u64 t.t0, .int .u64 t.t1, .slice a2 n2 cap2] 27)).alloc (.cells #[.int .u64 p0, .int .u64 p1] 24)) (w.heap.size + 1 + 1) 24 [.int .u64 p0, .int .u64 p1]) := Lib.hid (Blk.mk_ (by simp))
  clear hC hl hO hD hl2
  go_enter Try.func3, Try.ntmps3
  go_upto_region 1 with fail
  generalize (((w.alloc (.cells #[.int .u32 s.ch, .int .u64 s.rd, .int .u64 s.m0, .int .u64 s.m1, .int .u64 s.t0, .int .u64 s.t1, .slice a n cap] 27)).alloc (.cells #[.int .u32 t.ch, .int .u64 t.rd, .int .u64 t.m0, .int .u64 t.m1, .int .u64 t.t0, .int .u64 t.t1, .slice a2 n2 cap2] 27)).alloc (.cells #[.int .u64 p0, .int .u64 p1] 24)) = A at BA SA TA PA ⊢
  obtain ⟨gp, hgp⟩ : ∃ q, w.heap.size + 1 + 1 = q := ⟨_, rfl⟩
  obtain ⟨gt, hgt⟩ : ∃ q, w.heap.size + 1 = q := ⟨_, rfl⟩
  obtain ⟨gs, hgs⟩ : ∃ q, w.heap.size = q := ⟨_, rfl⟩
  rw [hgp] at PA ⊢
  rw [hgt] at TA ⊢
  rw [hgs] at SA ⊢
  have HGS := Lib.hid hgs
  clear hgp hgt hgs
  have s0 := SA.out.cell 0
  have s1 := SA.out.cell 1
  have s2 := SA.out.cell 2
  have s3 := SA.out.cell 3
  have s4 := SA.out.cell 4
  have s5 := SA.out.cell 5
  have s6 := SA.out.cell 6
  simp only [List.getElem?_cons_zero, List.getElem?_cons_succ] at s0 s1 s2 s3 s4 s5 s6
  have t0 := TA.out.cell 0
  have t1 := TA.out.cell 1
  have t2 := TA.out.cell 2
  have t3 := TA.out.cell 3
  have t4 := TA.out.cell 4
  have t5 := TA.out.cell 5
  have t6 := TA.out.cell 6
  simp only [List.getElem?_cons_zero, List.getElem?_cons_succ] at t0 t1 t2 t3 t4 t5 t6
  by_cases hn : n ≤ 40
  case neg =>
    have b1 : (n : Int) > 40 := by omega
    go_wp2_with fail
    refine (awake_any A).mono ?_
    rintro e Z ⟨rfl, hB⟩
    go_wp2
    go_ret
    exact ⟨rfl, BA.out.trans (hB.mono BA.out.size)⟩
  have hn0 : ¬ (n : Int) > 40 := by omega
  by_cases hn2 : n2 ≤ 40
  case neg =>
    have b1 : (n2 : Int) > 40 := by omega
    go_wp2_with fail
    refine (awake_any A).mono ?_
    rintro e Z ⟨rfl, hB⟩
    go_wp2
    go_ret
    exact ⟨rfl, BA.out.trans (hB.mono BA.out.size)⟩
  have hn3 : ¬ (n2 : Int) > 40 := by omega
  go_upto_region 3 with fail
  go_wp2_with fail
  clear s0 s1 s2 s3 s4 s5 s6 t0 t1 t2 t3 t4 t5 t6 hn0 hn3
  refine (to_any s.ch s.rd s.m0 s.m1 s.t0 s.t1 a n cap s.cs A (HC.out.below BA.out) HL.out (by omega)).mono ?_
  rintro e B ⟨a1, c1, rfl, hown, hB⟩
  have OB := Lib.hid (own_mono hown BA.out.size)
  clear hown
  have BB : Hid (Below w.heap.size w B) := Lib.hid (BA.out.trans (hB.mono BA.out.size))
  have SB := Lib.hid (SA.out.below hB SA.out.lt)
  have TB := Lib.hid (TA.out.below hB TA.out.lt)
  have PB := Lib.hid (PA.out.below hB PA.out.lt)
  clear hB BA SA TA PA
  have HLA := heap_alloc_last B (.cells #[.int .u32 0, .int .u64 0, .int .u64 0, .int .u64 0, .int .u64 0, .int .u64 0, .slice none 0 0] 31)
  have hz1 : (Try.prog.info? 31).map (·.size) = some (#[.int .u32 s.ch, .int .u64 s.rd, .int .u64 s.m0, .int .u64 s.m1, .int .u64 s.t0, .int .u64 s.t1, .slice a1 n c1] : Array Value).size := info31
  go_upto_region 4 with (first | (refine wpList_store_row rfl 31 (.tmp 11) (.tmp 32) rfl B.heap.size #[.int .u32 s.ch, .int .u64 s.rd, .int .u64 s.m0, .int .u64 s.m1, .int .u64 s.t0, .int .u64 s.t1, .slice a1 n c1] rfl rfl 31 _ HLA hz1 rfl rfl ?_; rw [World.setRow_alloc_new]))
  clear HLA hz1
  have hB : Below B.heap.size B (B.alloc (.cells #[.int .u32 s.ch, .int .u64 s.rd, .int .u64 s.m0, .int .u64 s.m1, .int .u64 s.t0, .int .u64 s.t1, .slice a1 n c1] 31)) := (Below.refl _ _).alloc (Nat.le_refl _) _
  have XC : Hid (StAt (B.alloc (.cells #[.int .u32 s.ch, .int .u64 s.rd, .int .u64 s.m0, .int .u64 s.m1, .int .u64 s.t0, .int .u64 s.t1, .slice a1 n c1] 31)) w.heap.size B.heap.size s a1 n c1) := Lib.hid ⟨Blk.new _ _ [.int .u32 s.ch, .int .u64 s.rd, .int .u64 s.m0, .int .u64 s.m1, .int .u64 s.t0, .int .u64 s.t1, .slice a1 n c1], own_keep OB.out hB, HC.out.ok, HL.out⟩
  clear OB
  have BC : Hid (Below w.heap.size w (B.alloc (.cells #[.int .u32 s.ch, .int .u64 s.rd, .int .u64 s.m0, .int .u64 s.m1, .int .u64 s.t0, .int .u64 s.t1, .slice a1 n c1] 31))) := Lib.hid (BB.out.trans (hB.mono BB.out.size))
  have SC := Lib.hid (SB.out.below hB SB.out.lt)
  have TC := Lib.hid (TB.out.below hB TB.out.lt)
  have PC := Lib.hid (PB.out.below hB PB.out.lt)
  clear hB BB SB TB PB
  generalize (B.alloc (.cells #[.int .u32 s.ch, .int .u64 s.rd, .int .u64 s.m0, .int .u64 s.m1, .int .u64 s.t0, .int .u64 s.t1, .slice a1 n c1] 31)) = C at BC SC TC PC XC ⊢
  generalize B.heap.size = gx at XC ⊢
  have XK := XC.out.blk
  have x0 := XK.cell 0
  have x1 := XK.cell 1
  have x2 := XK.cell 2
  have x3 := XK.cell 3
  have x4 := XK.cell 4
  have x5 := XK.cell 5
  have x6 := XK.cell 6
  simp only [List.getElem?_cons_zero, List.getElem?_cons_succ] at x0 x1 x2 x3 x4 x5 x6
  go_wp2_with fail
  clear XK x0 x1 x2 x3 x4 x5 x6
  refine (held_any s.ch s.rd s.m0 s.m1 s.t0 s.t1 a1 n c1 s.cs side C XC.out.row HL.out (by omega)).mono ?_
  rintro e D ⟨rfl, hB⟩
  have BD : Hid (Below w.heap.size w D) := Lib.hid (BC.out.trans (hB.mono BC.out.size))
  have SD := Lib.hid (SC.out.below hB SC.out.lt)
  have TD := Lib.hid (TC.out.below hB TC.out.lt)
  have PD := Lib.hid (PC.out.below hB PC.out.lt)
  have XD := Lib.hid (XC.out.keep hB)
  clear hB BC SC TC PC XC
  have s0 := SD.out.cell 0
  have s1 := SD.out.cell 1
  have s2 := SD.out.cell 2
  have s3 := SD.out.cell 3
  have s4 := SD.out.cell 4
  have s5 := SD.out.cell 5
  have s6 := SD.out.cell 6
  simp only [List.getElem?_cons_zero, List.getElem?_cons_succ] at s0 s1 s2 s3 s4 s5 s6
  go_wp2_with fail
  clear s0 s1 s2 s3 s4 s5 s6
  refine (rheld_any s.ch s.rd s.m0 s.m1 s.t0 s.t1 a n cap s.cs side D (HC.out.below BD.out) HL.out (by omega)).mono ?_
  rintro e E ⟨rfl, hB⟩
  have BE : Hid (Below w.heap.size w E) := Lib.hid (BD.out.trans (hB.mono BD.out.size))
  have SE := Lib.hid (SD.out.below hB SD.out.lt)
  have TE := Lib.hid (TD.out.below hB TD.out.lt)
  have PE := Lib.hid (PD.out.below hB PD.out.lt)
  have XE := Lib.hid (XD.out.keep hB)
  clear hB BD SD TD PD XD
  have HHZ := Lib.hid (fun h => held_zero (side := side) (cs := s.cs) h)
  obtain ⟨hv, hhv⟩ : ∃ x, heldV side s.cs = x := ⟨_, rfl⟩
  obtain ⟨he, hhe⟩ : ∃ x, heldE side s.cs = x := ⟨_, rfl⟩
  rw [hhv, hhe] at HHZ ⊢
  clear hhv hhe
  have XK := XE.out.blk
  have x0 := XK.cell 0
  have x1 := XK.cell 1
  have x2 := XK.cell 2
  have x3 := XK.cell 3
  have x4 := XK.cell 4
  have x5 := XK.cell 5
  have x6 := XK.cell 6
  simp only [List.getElem?_cons_zero, List.getElem?_cons_succ] at x0 x1 x2 x3 x4 x5 x6
  have q0 := PE.out.cell 0
  have q1 := PE.out.cell 1
  simp only [List.getElem?_cons_zero, List.getElem?_cons_succ] at q0 q1
  go_wp2_with fail
  clear XK x0 x1 x2 x3 x4 x5 x6 q0 q1
  refine ((show Calls Try.prog 13 #[.agg #[.int .u32 s.ch, .int .u64 s.rd, .int .u64 s.m0, .int .u64 s.m1, .int .u64 s.t0, .int .u64 s.t1, .slice a1 n c1], .agg #[.int .u64 p0, .int .u64 p1], .int .i64 side] E (fun e w2 => e = .returned (.tuple #[.int .u64 (freeF s p0 p1 side).1, .int .i64 (freeF s p0 p1 side).2]) ∧ Below E.heap.size E w2) from free_any s.ch s.rd s.m0 s.m1 s.t0 s.t1 a1 n c1 s.cs p0 p1 side E XE.out.row HL.out (by omega) hp0 hp1 HO.out.eta)).mono ?_
  rintro e F ⟨rfl, hB⟩
  have BF : Hid (Below w.heap.size w F) := Lib.hid (BE.out.trans (hB.mono BE.out.size))
  have SF := Lib.hid (SE.out.below hB SE.out.lt)
  have TF := Lib.hid (TE.out.below hB TE.out.lt)
  have PF := Lib.hid (PE.out.below hB PE.out.lt)
  have XF := Lib.hid (XE.out.keep hB)
  clear hB BE SE TE PE XE
  have s0 := SF.out.cell 0
  have s1 := SF.out.cell 1
  have s2 := SF.out.cell 2
  have s3 := SF.out.cell 3
  have s4 := SF.out.cell 4
  have s5 := SF.out.cell 5
  have s6 := SF.out.cell 6
  simp only [List.getElem?_cons_zero, List.getElem?_cons_succ] at s0 s1 s2 s3 s4 s5 s6
  have q0 := PF.out.cell 0
  have q1 := PF.out.cell 1
  simp only [List.getElem?_cons_zero, List.getElem?_cons_succ] at q0 q1
  go_wp2_with fail
  clear s0 s1 s2 s3 s4 s5 s6 q0 q1
  refine ((show Calls Try.prog 14 #[.agg #[.int .u32 s.ch, .int .u64 s.rd, .int .u64 s.m0, .int .u64 s.m1, .int .u64 s.t0, .int .u64 s.t1, .slice a n cap], .agg #[.int .u64 p0, .int .u64 p1], .int .i64 side] F (fun e w2 => e = .returned (.tuple #[.int .u64 (freeF s p0 p1 side).1, .int .i64 (freeF s p0 p1 side).2]) ∧ Below F.heap.size F w2) from rfree_any s.ch s.rd s.m0 s.m1 s.t0 s.t1 a n cap s.cs p0 p1 side F (HC.out.below BF.out) HL.out (by omega) hp0 hp1 HO.out.eta)).mono ?_
  rintro e G ⟨rfl, hB⟩
  have BG : Hid (Below w.heap.size w G) := Lib.hid (BF.out.trans (hB.mono BF.out.size))
  have SG := Lib.hid (SF.out.below hB SF.out.lt)
  have TG := Lib.hid (TF.out.below hB TF.out.lt)
  have PG := Lib.hid (PF.out.below hB PF.out.lt)
  have XG := Lib.hid (XF.out.keep hB)
  clear hB BF SF TF PF XF
  obtain ⟨fv, hfv⟩ : ∃ x, (freeF s p0 p1 side).1 = x := ⟨_, rfl⟩
  obtain ⟨fe, hfe⟩ : ∃ x, (freeF s p0 p1 side).2 = x := ⟨_, rfl⟩
  rw [hfv, hfe]
  clear hfv hfe
  have r1 : (hv == hv) = true := by simp
  have r2 : (he == he) = true := by simp
  have r3 : (fv == fv) = true := by simp
  have r4 : (fe == fe) = true := by simp
  obtain ⟨so, hso⟩ : ∃ x, soundE s p0 p1 = x := ⟨_, rfl⟩
  have HSO := Lib.hid hso
  obtain ⟨fd, hfd⟩ : ∃ x, findV id s.cs = x := ⟨_, rfl⟩
  have HFD := Lib.hid hfd
  obtain ⟨ds, hds⟩ : ∃ x, decide (s = t) = x := ⟨_, rfl⟩
  have HDS := Lib.hid hds
  have HSS : Hid (decide (s = s) = true) := Lib.hid (decide_eq_true rfl)
  clear hso hfd hds r1 r2 r3 r4
  by_cases h0 : he = 0
  case pos =>
    have b0 : (he != 0) = false := by simpa using h0
    clear h0
    go_upto_region 10 with fail
    have hBz : Below G.heap.size G G.drew := below_drewN (Below.refl _ _) 1
    have BX0 : Hid (Below w.heap.size w G.drew) := Lib.hid (BG.out.trans (hBz.mono BG.out.size))
    have SX0 : Hid (Blk G.drew gs 27 [.int .u32 s.ch, .int .u64 s.rd, .int .u64 s.m0, .int .u64 s.m1, .int .u64 s.t0, .int .u64 s.t1, .slice a n cap]) := Lib.hid (SG.out.below hBz SG.out.lt)
    have TX0 : Hid (Blk G.drew gt 27 [.int .u32 t.ch, .int .u64 t.rd, .int .u64 t.m0, .int .u64 t.m1, .int .u64 t.t0, .int .u64 t.t1, .slice a2 n2 cap2]) := Lib.hid (TG.out.below hBz TG.out.lt)
    have PX0 : Hid (Blk G.drew gp 24 [.int .u64 p0, .int .u64 p1]) := Lib.hid (PG.out.below hBz PG.out.lt)
    have XX0 : Hid (StAt G.drew w.heap.size gx s a1 n c1) := Lib.hid (XG.out.keep hBz)
    clear hBz
    refine wp_region_held_drew (S := fun w' => Blk w' gs 27 [.int .u32 s.ch, .int .u64 s.rd, .int .u64 s.m0, .int .u64 s.m1, .int .u64 s.t0, .int .u64 s.t1, .slice a n cap] ∧ Blk w' gt 27 [.int .u32 t.ch, .int .u64 t.rd, .int .u64 t.m0, .int .u64 t.m1, .int .u64 t.t0, .int .u64 t.t1, .slice a2 n2 cap2] ∧ Blk w' gp 24 [.int .u64 p0, .int .u64 p1] ∧ StAt w' w.heap.size gx s a1 n c1) (by kernel_rfl) (⟨SX0.out, TX0.out, PX0.out, XX0.out⟩) (fun hHeld => ?_)
    generalize G.drew = X0 at hHeld BX0 SX0 TX0 PX0 XX0 ⊢
    refine wpAnyH_ready (rs := [0]) (by kernel_rfl) (by simp) ?_
    refine AllReadyH.cons rfl (fun K hK => ?_) AllReadyH.nil
    refine step_call rfl 9 #[] #[] rfl #[] (by simp) (by go_simp) (awake_any X0) ?_
    rintro e X1 ⟨rfl, hB⟩
    have BX1 : Hid (Below w.heap.size w X1) := Lib.hid (BX0.out.trans (hB.mono BX0.out.size))
    have SX1 : Hid (Blk X1 gs 27 [.int .u32 s.ch, .int .u64 s.rd, .int .u64 s.m0, .int .u64 s.m1, .int .u64 s.t0, .int .u64 s.t1, .slice a n cap]) := Lib.hid (SX0.out.below hB SX0.out.lt)
    have TX1 : Hid (Blk X1 gt 27 [.int .u32 t.ch, .int .u64 t.rd, .int .u64 t.m0, .int .u64 t.m1, .int .u64 t.t0, .int .u64 t.t1, .slice a2 n2 cap2]) := Lib.hid (TX0.out.below hB TX0.out.lt)
    have PX1 : Hid (Blk X1 gp 24 [.int .u64 p0, .int .u64 p1]) := Lib.hid (PX0.out.below hB PX0.out.lt)
    have XX1 : Hid (StAt X1 w.heap.size gx s a1 n c1) := Lib.hid (XX0.out.keep hB)
    clear BX0 SX0 TX0 PX0 XX0 hB
    refine ⟨_, rfl, hK.out _ _ (⟨SX1.out, TX1.out, PX1.out, XX1.out⟩) (fun hHeld => ?_)⟩
    clear hK K
    show wpAnyH _ _ _ _ _ _ _ (Act.put _ (some 61) _) _
    simp only [Act.put, List.setIfInBounds_toArray, List.set_cons_zero, List.set_cons_succ]
    refine wpAnyH_take (i := 1) (v := .bool true) rfl (by kernel_rfl) (by kernel_rfl) (by kernel_rfl) (fun _ _ _ h => h) (Or.inl ⟨by rfl, fun w _ => by rfl⟩) hHeld ?_
    show wpAnyH _ _ _ _ _ _ _ (Act.put _ (some 62) _) _
    simp only [Act.put, List.setIfInBounds_toArray, List.set_cons_zero, List.set_cons_succ]
    refine wpAnyH_take (i := 2) (v := .int .u64 hv) rfl (by kernel_rfl) (by kernel_rfl) (by kernel_rfl) (fun _ _ _ h => h) (Or.inl ⟨by rfl, fun w _ => by rfl⟩) hHeld ?_
    show wpAnyH _ _ _ _ _ _ _ (Act.put _ (some 63) _) _
    simp only [Act.put, List.setIfInBounds_toArray, List.set_cons_zero, List.set_cons_succ]
    refine wpAnyH_take (i := 3) (v := .int .u64 hv) rfl (by kernel_rfl) (by kernel_rfl) (by kernel_rfl) (fun _ _ _ h => h) (Or.inl ⟨by rfl, fun w _ => by rfl⟩) hHeld ?_
    show wpAnyH _ _ _ _ _ _ _ (Act.put _ (some 64) _) _
    simp only [Act.put, List.setIfInBounds_toArray, List.set_cons_zero, List.set_cons_succ]
    refine wpAnyH_take (i := 4) (v := .bool true) rfl (by kernel_rfl) (by kernel_rfl) (by kernel_rfl) (fun _ _ _ h => h) (Or.inl ⟨by rfl, by intro w' h; go_simp⟩) hHeld ?_
    show wpAnyH _ _ _ _ _ _ _ (Act.put _ (some 65) _) _
    simp only [Act.put, List.setIfInBounds_toArray, List.set_cons_zero, List.set_cons_succ]
    refine wpAnyH_take (i := 5) (v := .bool true) rfl (by kernel_rfl) (by kernel_rfl) (by kernel_rfl) (fun _ _ _ h => h) (Or.inl ⟨by rfl, by intro w hSw; first | rfl | go_simp⟩) hHeld ?_
    show wpAnyH _ _ _ _ _ _ _ (Act.put _ (some 66) _) _
    simp only [Act.put, List.setIfInBounds_toArray, List.set_cons_zero, List.set_cons_succ]
    refine wpAnyH_take (i := 6) (v := .bool true) rfl (by kernel_rfl) (by kernel_rfl) (by kernel_rfl) (fun _ _ _ h => h) (Or.inl ⟨by rfl, fun w _ => by rfl⟩) hHeld ?_
    show wpAnyH _ _ _ _ _ _ _ (Act.put _ (some 67) _) _
    simp only [Act.put, List.setIfInBounds_toArray, List.set_cons_zero, List.set_cons_succ]
    refine wpAnyH_take (i := 7) (v := .int .i64 he) rfl (by kernel_rfl) (by kernel_rfl) (by kernel_rfl) (fun _ _ _ h => h) (Or.inl ⟨by rfl, fun w _ => by rfl⟩) hHeld ?_
    show wpAnyH _ _ _ _ _ _ _ (Act.put _ (some 68) _) _
    simp only [Act.put, List.setIfInBounds_toArray, List.set_cons_zero, List.set_cons_succ]
    refine wpAnyH_take (i := 8) (v := .int .i64 he) rfl (by kernel_rfl) (by kernel_rfl) (by kernel_rfl) (fun _ _ _ h => h) (Or.inl ⟨by rfl, fun w _ => by rfl⟩) hHeld ?_
    show wpAnyH _ _ _ _ _ _ _ (Act.put _ (some 69) _) _
    simp only [Act.put, List.setIfInBounds_toArray, List.set_cons_zero, List.set_cons_succ]
    refine wpAnyH_take (i := 9) (v := .bool true) rfl (by kernel_rfl) (by kernel_rfl) (by kernel_rfl) (fun _ _ _ h => h) (Or.inl ⟨by rfl, by intro w' h; go_simp⟩) hHeld ?_
    show wpAnyH _ _ _ _ _ _ _ (Act.put _ (some 70) _) _
    simp only [Act.put, List.setIfInBounds_toArray, List.set_cons_zero, List.set_cons_succ]
    refine wpAnyH_take (i := 10) (v := .bool true) rfl (by kernel_rfl) (by kernel_rfl) (by kernel_rfl) (fun _ _ _ h => h) (Or.inl ⟨by rfl, by intro w hSw; first | rfl | go_simp⟩) hHeld ?_
    show wpAnyH _ _ _ _ _ _ _ (Act.put _ (some 71) _) _
    simp only [Act.put, List.setIfInBounds_toArray, List.set_cons_zero, List.set_cons_succ]
    refine wpAnyH_take (i := 11) (v := .bool true) rfl (by kernel_rfl) (by kernel_rfl) (by kernel_rfl) (fun _ _ _ h => h) (Or.inl ⟨by rfl, fun w _ => by rfl⟩) hHeld ?_
    show wpAnyH _ _ _ _ _ _ _ (Act.put _ (some 72) _) _
    simp only [Act.put, List.setIfInBounds_toArray, List.set_cons_zero, List.set_cons_succ]
    refine wpAnyH_take (i := 12) (v := .int .u64 fv) rfl (by kernel_rfl) (by kernel_rfl) (by kernel_rfl) (fun _ _ _ h => h) (Or.inl ⟨by rfl, fun w _ => by rfl⟩) hHeld ?_
    show wpAnyH _ _ _ _ _ _ _ (Act.put _ (some 73) _) _
    simp only [Act.put, List.setIfInBounds_toArray, List.set_cons_zero, List.set_cons_succ]
    refine wpAnyH_take (i := 13) (v := .int .u64 fv) rfl (by kernel_rfl) (by kernel_rfl) (by kernel_rfl) (fun _ _ _ h => h) (Or.inl ⟨by rfl, fun w _ => by rfl⟩) hHeld ?_
    show wpAnyH _ _ _ _ _ _ _ (Act.put _ (some 74) _) _
    simp only [Act.put, List.setIfInBounds_toArray, List.set_cons_zero, List.set_cons_succ]
    refine wpAnyH_take (i := 14) (v := .bool true) rfl (by kernel_rfl) (by kernel_rfl) (by kernel_rfl) (fun _ _ _ h => h) (Or.inl ⟨by rfl, by intro w' h; go_simp⟩) hHeld ?_
    show wpAnyH _ _ _ _ _ _ _ (Act.put _ (some 75) _) _
    simp only [Act.put, List.setIfInBounds_toArray, List.set_cons_zero, List.set_cons_succ]
    refine wpAnyH_take (i := 15) (v := .bool true) rfl (by kernel_rfl) (by kernel_rfl) (by kernel_rfl) (fun _ _ _ h => h) (Or.inl ⟨by rfl, by intro w hSw; first | rfl | go_simp⟩) hHeld ?_
    show wpAnyH _ _ _ _ _ _ _ (Act.put _ (some 76) _) _
    simp only [Act.put, List.setIfInBounds_toArray, List.set_cons_zero, List.set_cons_succ]
    refine wpAnyH_take (i := 16) (v := .bool true) rfl (by kernel_rfl) (by kernel_rfl) (by kernel_rfl) (fun _ _ _ h => h) (Or.inl ⟨by rfl, fun w _ => by rfl⟩) hHeld ?_
    show wpAnyH _ _ _ _ _ _ _ (Act.put _ (some 77) _) _
    simp only [Act.put, List.setIfInBounds_toArray, List.set_cons_zero, List.set_cons_succ]
    refine wpAnyH_take (i := 17) (v := .int .i64 fe) rfl (by kernel_rfl) (by kernel_rfl) (by kernel_rfl) (fun _ _ _ h => h) (Or.inl ⟨by rfl, fun w _ => by rfl⟩) hHeld ?_
    show wpAnyH _ _ _ _ _ _ _ (Act.put _ (some 78) _) _
    simp only [Act.put, List.setIfInBounds_toArray, List.set_cons_zero, List.set_cons_succ]
    refine wpAnyH_take (i := 18) (v := .int .i64 fe) rfl (by kernel_rfl) (by kernel_rfl) (by kernel_rfl) (fun _ _ _ h => h) (Or.inl ⟨by rfl, fun w _ => by rfl⟩) hHeld ?_
    show wpAnyH _ _ _ _ _ _ _ (Act.put _ (some 79) _) _
    simp only [Act.put, List.setIfInBounds_toArray, List.set_cons_zero, List.set_cons_succ]
    refine wpAnyH_take (i := 19) (v := .bool true) rfl (by kernel_rfl) (by kernel_rfl) (by kernel_rfl) (fun _ _ _ h => h) (Or.inl ⟨by rfl, by intro w' h; go_simp⟩) hHeld ?_
    show wpAnyH _ _ _ _ _ _ _ (Act.put _ (some 80) _) _
    simp only [Act.put, List.setIfInBounds_toArray, List.set_cons_zero, List.set_cons_succ]
    refine wpAnyH_take (i := 20) (v := .bool true) rfl (by kernel_rfl) (by kernel_rfl) (by kernel_rfl) (fun _ _ _ h => h) (Or.inl ⟨by rfl, by intro w hSw; first | rfl | go_simp⟩) hHeld ?_
    show wpAnyH _ _ _ _ _ _ _ (Act.put _ (some 81) _) _
    simp only [Act.put, List.setIfInBounds_toArray, List.set_cons_zero, List.set_cons_succ]
    refine wpAnyH_take (i := 21) (v := .bool true) rfl (by kernel_rfl) (by kernel_rfl) (by kernel_rfl) (fun _ _ _ h => h) (Or.inl ⟨by rfl, fun w _ => by rfl⟩) hHeld ?_
    show wpAnyH _ _ _ _ _ _ _ (Act.put _ (some 82) _) _
    simp only [Act.put, List.setIfInBounds_toArray, List.set_cons_zero, List.set_cons_succ]
    refine wpAnyH_take (i := 22) (v := .agg #[.int .u32 s.ch, .int .u64 s.rd, .int .u64 s.m0, .int .u64 s.m1, .int .u64 s.t0, .int .u64 s.t1, .slice a1 n c1]) rfl (by kernel_rfl) (by kernel_rfl) (by kernel_rfl) (fun _ _ _ h => h) (Or.inl ⟨by rfl, by intro w' h; have q0 := Blk.cell h.2.2.2.blk 0; have q1 := Blk.cell h.2.2.2.blk 1; have q2 := Blk.cell h.2.2.2.blk 2; have q3 := Blk.cell h.2.2.2.blk 3; have q4 := Blk.cell h.2.2.2.blk 4; have q5 := Blk.cell h.2.2.2.blk 5; have q6 := Blk.cell h.2.2.2.blk 6; simp only [List.getElem?_cons_zero, List.getElem?_cons_succ] at q0 q1 q2 q3 q4 q5 q6; go_simp⟩) hHeld ?_
    show wpAnyH _ _ _ _ _ _ _ (Act.put _ (some 83) _) _
    simp only [Act.put, List.setIfInBounds_toArray, List.set_cons_zero, List.set_cons_succ]
    refine wpAnyH_take (i := 23) (v := .agg #[.int .u64 p0, .int .u64 p1]) rfl (by kernel_rfl) (by kernel_rfl) (by kernel_rfl) (fun _ _ _ h => h) (Or.inl ⟨by rfl, by intro w' h; have q0 := Blk.cell h.2.2.1 0; have q1 := Blk.cell h.2.2.1 1; simp only [List.getElem?_cons_zero, List.getElem?_cons_succ] at q0 q1; go_simp⟩) hHeld ?_
    show wpAnyH _ _ _ _ _ _ _ (Act.put _ (some 84) _) _
    simp only [Act.put, List.setIfInBounds_toArray, List.set_cons_zero, List.set_cons_succ]
    refine wpAnyH_take (i := 25) (v := .agg #[.int .u32 s.ch, .int .u64 s.rd, .int .u64 s.m0, .int .u64 s.m1, .int .u64 s.t0, .int .u64 s.t1, .slice a n cap]) rfl (by kernel_rfl) (by kernel_rfl) (by kernel_rfl) (fun _ _ _ h => h) (Or.inl ⟨by rfl, by intro w' h; have q0 := Blk.cell h.1 0; have q1 := Blk.cell h.1 1; have q2 := Blk.cell h.1 2; have q3 := Blk.cell h.1 3; have q4 := Blk.cell h.1 4; have q5 := Blk.cell h.1 5; have q6 := Blk.cell h.1 6; simp only [List.getElem?_cons_zero, List.getElem?_cons_succ] at q0 q1 q2 q3 q4 q5 q6; go_simp⟩) hHeld ?_
    show wpAnyH _ _ _ _ _ _ _ (Act.put _ (some 86) _) _
    simp only [Act.put, List.setIfInBounds_toArray, List.set_cons_zero, List.set_cons_succ]
    refine wpAnyH_take (i := 26) (v := .agg #[.int .u64 p0, .int .u64 p1]) rfl (by kernel_rfl) (by kernel_rfl) (by kernel_rfl) (fun _ _ _ h => h) (Or.inl ⟨by rfl, by intro w' h; have q0 := Blk.cell h.2.2.1 0; have q1 := Blk.cell h.2.2.1 1; simp only [List.getElem?_cons_zero, List.getElem?_cons_succ] at q0 q1; go_simp⟩) hHeld ?_
    show wpAnyH _ _ _ _ _ _ _ (Act.put _ (some 87) _) _
    simp only [Act.put, List.setIfInBounds_toArray, List.set_cons_zero, List.set_cons_succ]
    refine wpAnyH_ready (rs := [24]) (by kernel_rfl) (by simp) ?_
    refine AllReadyH.cons rfl (fun K hK => ?_) AllReadyH.nil
    refine step_call rfl 15 #[.tmp 83, .tmp 84] #[31, 24] rfl #[.agg #[.int .u32 s.ch, .int .u64 s.rd, .int .u64 s.m0, .int .u64 s.m1, .int .u64 s.t0, .int .u64 s.t1, .slice a1 n c1], .agg #[.int .u64 p0, .int .u64 p1]] (by simp [Act.eval]) (by go_simp) ((show Calls Try.prog 15 #[.agg #[.int .u32 s.ch, .int .u64 s.rd, .int .u64 s.m0, .int .u64 s.m1, .int .u64 s.t0, .int .u64 s.t1, .slice a1 n c1], .agg #[.int .u64 p0, .int .u64 p1]] X1 (fun e w2 => e = .returned (.int .i64 so) ∧ Below X1.heap.size X1 w2) from HSO.out ▸ (sound_any s.ch s.rd s.m0 s.m1 s.t0 s.t1 a1 n c1 s.cs p0 p1 X1 XX1.out.row HL.out (by omega) hp0 hp1 HO.out.eta))) ?_
    rintro e X2 ⟨rfl, hB⟩
    have BX2 : Hid (Below w.heap.size w X2) := Lib.hid (BX1.out.trans (hB.mono BX1.out.size))
    have SX2 : Hid (Blk X2 gs 27 [.int .u32 s.ch, .int .u64 s.rd, .int .u64 s.m0, .int .u64 s.m1, .int .u64 s.t0, .int .u64 s.t1, .slice a n cap]) := Lib.hid (SX1.out.below hB SX1.out.lt)
    have TX2 : Hid (Blk X2 gt 27 [.int .u32 t.ch, .int .u64 t.rd, .int .u64 t.m0, .int .u64 t.m1, .int .u64 t.t0, .int .u64 t.t1, .slice a2 n2 cap2]) := Lib.hid (TX1.out.below hB TX1.out.lt)
    have PX2 : Hid (Blk X2 gp 24 [.int .u64 p0, .int .u64 p1]) := Lib.hid (PX1.out.below hB PX1.out.lt)
    have XX2 : Hid (StAt X2 w.heap.size gx s a1 n c1) := Lib.hid (XX1.out.keep hB)
    clear BX1 SX1 TX1 PX1 XX1 hB
    refine ⟨_, rfl, hK.out _ _ (⟨SX2.out, TX2.out, PX2.out, XX2.out⟩) (fun hHeld => ?_)⟩
    clear hK K
    show wpAnyH _ _ _ _ _ _ _ (Act.put _ (some 85) _) _
    simp only [Act.put, List.setIfInBounds_toArray, List.set_cons_zero, List.set_cons_succ]
    refine wpAnyH_ready (rs := [27]) (by kernel_rfl) (by simp) ?_
    refine AllReadyH.cons rfl (fun K hK => ?_) AllReadyH.nil
    refine step_call rfl 16 #[.tmp 86, .tmp 87] #[27, 24] rfl #[.agg #[.int .u32 s.ch, .int .u64 s.rd, .int .u64 s.m0, .int .u64 s.m1, .int .u64 s.t0, .int .u64 s.t1, .slice a n cap], .agg #[.int .u64 p0, .int .u64 p1]] (by simp [Act.eval]) (by go_simp) ((show Calls Try.prog 16 #[.agg #[.int .u32 s.ch, .int .u64 s.rd, .int .u64 s.m0, .int .u64 s.m1, .int .u64 s.t0, .int .u64 s.t1, .slice a n cap], .agg #[.int .u64 p0, .int .u64 p1]] X2 (fun e w2 => e = .returned (.int .i64 so) ∧ Below X2.heap.size X2 w2) from HSO.out ▸ (rsound_any s.ch s.rd s.m0 s.m1 s.t0 s.t1 a n cap s.cs p0 p1 X2 (HC.out.below BX2.out) HL.out (by omega) hp0 hp1 HO.out.eta))) ?_
    rintro e X3 ⟨rfl, hB⟩
    have BX3 : Hid (Below w.heap.size w X3) := Lib.hid (BX2.out.trans (hB.mono BX2.out.size))
    have SX3 : Hid (Blk X3 gs 27 [.int .u32 s.ch, .int .u64 s.rd, .int .u64 s.m0, .int .u64 s.m1, .int .u64 s.t0, .int .u64 s.t1, .slice a n cap]) := Lib.hid (SX2.out.below hB SX2.out.lt)
    have TX3 : Hid (Blk X3 gt 27 [.int .u32 t.ch, .int .u64 t.rd, .int .u64 t.m0, .int .u64 t.m1, .int .u64 t.t0, .int .u64 t.t1, .slice a2 n2 cap2]) := Lib.hid (TX2.out.below hB TX2.out.lt)
    have PX3 : Hid (Blk X3 gp 24 [.int .u64 p0, .int .u64 p1]) := Lib.hid (PX2.out.below hB PX2.out.lt)
    have XX3 : Hid (StAt X3 w.heap.size gx s a1 n c1) := Lib.hid (XX2.out.keep hB)
    clear BX2 SX2 TX2 PX2 XX2 hB
    refine ⟨_, rfl, hK.out _ _ (⟨SX3.out, TX3.out, PX3.out, XX3.out⟩) (fun hHeld => ?_)⟩
    clear hK K
    show wpAnyH _ _ _ _ _ _ _ (Act.put _ (some 88) _) _
    simp only [Act.put, List.setIfInBounds_toArray, List.set_cons_zero, List.set_cons_succ]
    refine wpAnyH_take (i := 28) (v := .bool true) rfl (by kernel_rfl) (by kernel_rfl) (by kernel_rfl) (fun _ _ _ h => h) (Or.inl ⟨by rfl, by intro w' h; go_simp⟩) hHeld ?_
    show wpAnyH _ _ _ _ _ _ _ (Act.put _ (some 89) _) _
    simp only [Act.put, List.setIfInBounds_toArray, List.set_cons_zero, List.set_cons_succ]
    refine wpAnyH_take (i := 29) (v := .bool true) rfl (by kernel_rfl) (by kernel_rfl) (by kernel_rfl) (fun _ _ _ h => h) (Or.inl ⟨by rfl, by intro w hSw; first | rfl | go_simp⟩) hHeld ?_
    show wpAnyH _ _ _ _ _ _ _ (Act.put _ (some 90) _) _
    simp only [Act.put, List.setIfInBounds_toArray, List.set_cons_zero, List.set_cons_succ]
    refine wpAnyH_take (i := 30) (v := .bool true) rfl (by kernel_rfl) (by kernel_rfl) (by kernel_rfl) (fun _ _ _ h => h) (Or.inl ⟨by rfl, fun w _ => by rfl⟩) hHeld ?_
    show wpAnyH _ _ _ _ _ _ _ (Act.put _ (some 91) _) _
    simp only [Act.put, List.setIfInBounds_toArray, List.set_cons_zero, List.set_cons_succ]
    refine wpAnyH_take (i := 31) (v := .agg #[.int .u32 s.ch, .int .u64 s.rd, .int .u64 s.m0, .int .u64 s.m1, .int .u64 s.t0, .int .u64 s.t1, .slice a1 n c1]) rfl (by kernel_rfl) (by kernel_rfl) (by kernel_rfl) (fun _ _ _ h => h) (Or.inl ⟨by rfl, by intro w' h; have q0 := Blk.cell h.2.2.2.blk 0; have q1 := Blk.cell h.2.2.2.blk 1; have q2 := Blk.cell h.2.2.2.blk 2; have q3 := Blk.cell h.2.2.2.blk 3; have q4 := Blk.cell h.2.2.2.blk 4; have q5 := Blk.cell h.2.2.2.blk 5; have q6 := Blk.cell h.2.2.2.blk 6; simp only [List.getElem?_cons_zero, List.getElem?_cons_succ] at q0 q1 q2 q3 q4 q5 q6; go_simp⟩) hHeld ?_
    show wpAnyH _ _ _ _ _ _ _ (Act.put _ (some 92) _) _
    simp only [Act.put, List.setIfInBounds_toArray, List.set_cons_zero, List.set_cons_succ]
    refine wpAnyH_take (i := 32) (v := .int .u64 id) rfl (by kernel_rfl) (by kernel_rfl) (by kernel_rfl) (fun _ _ _ h => h) (Or.inl ⟨by rfl, fun w _ => by rfl⟩) hHeld ?_
    show wpAnyH _ _ _ _ _ _ _ (Act.put _ (some 93) _) _
    simp only [Act.put, List.setIfInBounds_toArray, List.set_cons_zero, List.set_cons_succ]
    refine wpAnyH_take (i := 34) (v := .agg #[.int .u32 s.ch, .int .u64 s.rd, .int .u64 s.m0, .int .u64 s.m1, .int .u64 s.t0, .int .u64 s.t1, .slice a n cap]) rfl (by kernel_rfl) (by kernel_rfl) (by kernel_rfl) (fun _ _ _ h => h) (Or.inl ⟨by rfl, by intro w' h; have q0 := Blk.cell h.1 0; have q1 := Blk.cell h.1 1; have q2 := Blk.cell h.1 2; have q3 := Blk.cell h.1 3; have q4 := Blk.cell h.1 4; have q5 := Blk.cell h.1 5; have q6 := Blk.cell h.1 6; simp only [List.getElem?_cons_zero, List.getElem?_cons_succ] at q0 q1 q2 q3 q4 q5 q6; go_simp⟩) hHeld ?_
    show wpAnyH _ _ _ _ _ _ _ (Act.put _ (some 95) _) _
    simp only [Act.put, List.setIfInBounds_toArray, List.set_cons_zero, List.set_cons_succ]
    refine wpAnyH_take (i := 35) (v := .int .u64 id) rfl (by kernel_rfl) (by kernel_rfl) (by kernel_rfl) (fun _ _ _ h => h) (Or.inl ⟨by rfl, fun w _ => by rfl⟩) hHeld ?_
    show wpAnyH _ _ _ _ _ _ _ (Act.put _ (some 96) _) _
    simp only [Act.put, List.setIfInBounds_toArray, List.set_cons_zero, List.set_cons_succ]
    refine wpAnyH_ready (rs := [33]) (by kernel_rfl) (by simp) ?_
    refine AllReadyH.cons rfl (fun K hK => ?_) AllReadyH.nil
    refine step_call rfl 17 #[.tmp 92, .tmp 93] #[31, 23] rfl #[.agg #[.int .u32 s.ch, .int .u64 s.rd, .int .u64 s.m0, .int .u64 s.m1, .int .u64 s.t0, .int .u64 s.t1, .slice a1 n c1], .int .u64 id] (by simp [Act.eval]) (by go_simp) (HFD.out ▸ (find_any s.ch s.rd s.m0 s.m1 s.t0 s.t1 a1 n c1 s.cs id X3 XX3.out.row HL.out (by omega))) ?_
    rintro e X4 ⟨rfl, hB⟩
    have BX4 : Hid (Below w.heap.size w X4) := Lib.hid (BX3.out.trans (hB.mono BX3.out.size))
    have SX4 : Hid (Blk X4 gs 27 [.int .u32 s.ch, .int .u64 s.rd, .int .u64 s.m0, .int .u64 s.m1, .int .u64 s.t0, .int .u64 s.t1, .slice a n cap]) := Lib.hid (SX3.out.below hB SX3.out.lt)
    have TX4 : Hid (Blk X4 gt 27 [.int .u32 t.ch, .int .u64 t.rd, .int .u64 t.m0, .int .u64 t.m1, .int .u64 t.t0, .int .u64 t.t1, .slice a2 n2 cap2]) := Lib.hid (TX3.out.below hB TX3.out.lt)
    have PX4 : Hid (Blk X4 gp 24 [.int .u64 p0, .int .u64 p1]) := Lib.hid (PX3.out.below hB PX3.out.lt)
    have XX4 : Hid (StAt X4 w.heap.size gx s a1 n c1) := Lib.hid (XX3.out.keep hB)
    clear BX3 SX3 TX3 PX3 XX3 hB
    refine ⟨_, rfl, hK.out _ _ (⟨SX4.out, TX4.out, PX4.out, XX4.out⟩) (fun hHeld => ?_)⟩
    clear hK K
    show wpAnyH _ _ _ _ _ _ _ (Act.put _ (some 94) _) _
    simp only [Act.put, List.setIfInBounds_toArray, List.set_cons_zero, List.set_cons_succ]
    refine wpAnyH_ready (rs := [36]) (by kernel_rfl) (by simp) ?_
    refine AllReadyH.cons rfl (fun K hK => ?_) AllReadyH.nil
    refine step_call rfl 18 #[.tmp 95, .tmp 96] #[27, 23] rfl #[.agg #[.int .u32 s.ch, .int .u64 s.rd, .int .u64 s.m0, .int .u64 s.m1, .int .u64 s.t0, .int .u64 s.t1, .slice a n cap], .int .u64 id] (by simp [Act.eval]) (by go_simp) (HFD.out ▸ (rfind_any s.ch s.rd s.m0 s.m1 s.t0 s.t1 a n cap s.cs id X4 (HC.out.below BX4.out) HL.out (by omega))) ?_
    rintro e X5 ⟨rfl, hB⟩
    have BX5 : Hid (Below w.heap.size w X5) := Lib.hid (BX4.out.trans (hB.mono BX4.out.size))
    have SX5 : Hid (Blk X5 gs 27 [.int .u32 s.ch, .int .u64 s.rd, .int .u64 s.m0, .int .u64 s.m1, .int .u64 s.t0, .int .u64 s.t1, .slice a n cap]) := Lib.hid (SX4.out.below hB SX4.out.lt)
    have TX5 : Hid (Blk X5 gt 27 [.int .u32 t.ch, .int .u64 t.rd, .int .u64 t.m0, .int .u64 t.m1, .int .u64 t.t0, .int .u64 t.t1, .slice a2 n2 cap2]) := Lib.hid (TX4.out.below hB TX4.out.lt)
    have PX5 : Hid (Blk X5 gp 24 [.int .u64 p0, .int .u64 p1]) := Lib.hid (PX4.out.below hB PX4.out.lt)
    have XX5 : Hid (StAt X5 w.heap.size gx s a1 n c1) := Lib.hid (XX4.out.keep hB)
    clear BX4 SX4 TX4 PX4 XX4 hB
    refine ⟨_, rfl, hK.out _ _ (⟨SX5.out, TX5.out, PX5.out, XX5.out⟩) (fun hHeld => ?_)⟩
    clear hK K
    show wpAnyH _ _ _ _ _ _ _ (Act.put _ (some 97) _) _
    simp only [Act.put, List.setIfInBounds_toArray, List.set_cons_zero, List.set_cons_succ]
    refine wpAnyH_take (i := 37) (v := .bool true) rfl (by kernel_rfl) (by kernel_rfl) (by kernel_rfl) (fun _ _ _ h => h) (Or.inl ⟨by rfl, by intro w' h; go_simp⟩) hHeld ?_
    show wpAnyH _ _ _ _ _ _ _ (Act.put _ (some 98) _) _
    simp only [Act.put, List.setIfInBounds_toArray, List.set_cons_zero, List.set_cons_succ]
    refine wpAnyH_take (i := 38) (v := .bool true) rfl (by kernel_rfl) (by kernel_rfl) (by kernel_rfl) (fun _ _ _ h => h) (Or.inl ⟨by rfl, by intro w hSw; first | rfl | go_simp⟩) hHeld ?_
    show wpAnyH _ _ _ _ _ _ _ (Act.put _ (some 99) _) _
    simp only [Act.put, List.setIfInBounds_toArray, List.set_cons_zero, List.set_cons_succ]
    refine wpAnyH_take (i := 39) (v := .bool true) rfl (by kernel_rfl) (by kernel_rfl) (by kernel_rfl) (fun _ _ _ h => h) (Or.inl ⟨by rfl, fun w _ => by rfl⟩) hHeld ?_
    show wpAnyH _ _ _ _ _ _ _ (Act.put _ (some 100) _) _
    simp only [Act.put, List.setIfInBounds_toArray, List.set_cons_zero, List.set_cons_succ]
    refine wpAnyH_take (i := 40) (v := .agg #[.int .u32 s.ch, .int .u64 s.rd, .int .u64 s.m0, .int .u64 s.m1, .int .u64 s.t0, .int .u64 s.t1, .slice a1 n c1]) rfl (by kernel_rfl) (by kernel_rfl) (by kernel_rfl) (fun _ _ _ h => h) (Or.inl ⟨by rfl, by intro w' h; have q0 := Blk.cell h.2.2.2.blk 0; have q1 := Blk.cell h.2.2.2.blk 1; have q2 := Blk.cell h.2.2.2.blk 2; have q3 := Blk.cell h.2.2.2.blk 3; have q4 := Blk.cell h.2.2.2.blk 4; have q5 := Blk.cell h.2.2.2.blk 5; have q6 := Blk.cell h.2.2.2.blk 6; simp only [List.getElem?_cons_zero, List.getElem?_cons_succ] at q0 q1 q2 q3 q4 q5 q6; go_simp⟩) hHeld ?_
    show wpAnyH _ _ _ _ _ _ _ (Act.put _ (some 101) _) _
    simp only [Act.put, List.setIfInBounds_toArray, List.set_cons_zero, List.set_cons_succ]
    refine wpAnyH_take (i := 41) (v := .agg #[.int .u32 t.ch, .int .u64 t.rd, .int .u64 t.m0, .int .u64 t.m1, .int .u64 t.t0, .int .u64 t.t1, .slice a2 n2 cap2]) rfl (by kernel_rfl) (by kernel_rfl) (by kernel_rfl) (fun _ _ _ h => h) (Or.inl ⟨by rfl, by intro w' h; have q0 := Blk.cell h.2.1 0; have q1 := Blk.cell h.2.1 1; have q2 := Blk.cell h.2.1 2; have q3 := Blk.cell h.2.1 3; have q4 := Blk.cell h.2.1 4; have q5 := Blk.cell h.2.1 5; have q6 := Blk.cell h.2.1 6; simp only [List.getElem?_cons_zero, List.getElem?_cons_succ] at q0 q1 q2 q3 q4 q5 q6; go_simp⟩) hHeld ?_
    show wpAnyH _ _ _ _ _ _ _ (Act.put _ (some 102) _) _
    simp only [Act.put, List.setIfInBounds_toArray, List.set_cons_zero, List.set_cons_succ]
    refine wpAnyH_take (i := 44) (v := .agg #[.int .u32 s.ch, .int .u64 s.rd, .int .u64 s.m0, .int .u64 s.m1, .int .u64 s.t0, .int .u64 s.t1, .slice a n cap]) rfl (by kernel_rfl) (by kernel_rfl) (by kernel_rfl) (fun _ _ _ h => h) (Or.inl ⟨by rfl, by intro w' h; have q0 := Blk.cell h.1 0; have q1 := Blk.cell h.1 1; have q2 := Blk.cell h.1 2; have q3 := Blk.cell h.1 3; have q4 := Blk.cell h.1 4; have q5 := Blk.cell h.1 5; have q6 := Blk.cell h.1 6; simp only [List.getElem?_cons_zero, List.getElem?_cons_succ] at q0 q1 q2 q3 q4 q5 q6; go_simp⟩) hHeld ?_
    show wpAnyH _ _ _ _ _ _ _ (Act.put _ (some 105) _) _
    simp only [Act.put, List.setIfInBounds_toArray, List.set_cons_zero, List.set_cons_succ]
    refine wpAnyH_take (i := 45) (v := .agg #[.int .u32 t.ch, .int .u64 t.rd, .int .u64 t.m0, .int .u64 t.m1, .int .u64 t.t0, .int .u64 t.t1, .slice a2 n2 cap2]) rfl (by kernel_rfl) (by kernel_rfl) (by kernel_rfl) (fun _ _ _ h => h) (Or.inl ⟨by rfl, by intro w' h; have q0 := Blk.cell h.2.1 0; have q1 := Blk.cell h.2.1 1; have q2 := Blk.cell h.2.1 2; have q3 := Blk.cell h.2.1 3; have q4 := Blk.cell h.2.1 4; have q5 := Blk.cell h.2.1 5; have q6 := Blk.cell h.2.1 6; simp only [List.getElem?_cons_zero, List.getElem?_cons_succ] at q0 q1 q2 q3 q4 q5 q6; go_simp⟩) hHeld ?_
    show wpAnyH _ _ _ _ _ _ _ (Act.put _ (some 106) _) _
    simp only [Act.put, List.setIfInBounds_toArray, List.set_cons_zero, List.set_cons_succ]
    refine wpAnyH_ready (rs := [42]) (by kernel_rfl) (by simp) ?_
    refine AllReadyH.cons rfl (fun K hK => ?_) AllReadyH.nil
    refine step_call rfl 10 #[.tmp 102] #[27] rfl #[.agg #[.int .u32 t.ch, .int .u64 t.rd, .int .u64 t.m0, .int .u64 t.m1, .int .u64 t.t0, .int .u64 t.t1, .slice a2 n2 cap2]] (by simp [Act.eval]) (by go_simp) (to_any t.ch t.rd t.m0 t.m1 t.t0 t.t1 a2 n2 cap2 t.cs X5 (HD.out.below BX5.out) HL2.out (by omega)) ?_
    rintro e X6 ⟨a3, c3, rfl, hown, hB⟩
    have BX6 : Hid (Below w.heap.size w X6) := Lib.hid (BX5.out.trans (hB.mono BX5.out.size))
    have SX6 : Hid (Blk X6 gs 27 [.int .u32 s.ch, .int .u64 s.rd, .int .u64 s.m0, .int .u64 s.m1, .int .u64 s.t0, .int .u64 s.t1, .slice a n cap]) := Lib.hid (SX5.out.below hB SX5.out.lt)
    have TX6 : Hid (Blk X6 gt 27 [.int .u32 t.ch, .int .u64 t.rd, .int .u64 t.m0, .int .u64 t.m1, .int .u64 t.t0, .int .u64 t.t1, .slice a2 n2 cap2]) := Lib.hid (TX5.out.below hB TX5.out.lt)
    have PX6 : Hid (Blk X6 gp 24 [.int .u64 p0, .int .u64 p1]) := Lib.hid (PX5.out.below hB PX5.out.lt)
    have XX6 : Hid (StAt X6 w.heap.size gx s a1 n c1) := Lib.hid (XX5.out.keep hB)
    have YX6 : Hid (CRow X6 a3 t.cs) := Lib.hid (CRow.of_own (by rw [HL2.out]; exact hown) HD.out.ok)
    clear BX5 SX5 TX5 PX5 XX5 hown hB
    refine ⟨_, rfl, hK.out _ _ (⟨SX6.out, TX6.out, PX6.out, XX6.out⟩) (fun hHeld => ?_)⟩
    clear hK K
    show wpAnyH _ _ _ _ _ _ _ (Act.put _ (some 103) _) _
    simp only [Act.put, List.setIfInBounds_toArray, List.set_cons_zero, List.set_cons_succ]
    refine wpAnyH_ready (rs := [43]) (by kernel_rfl) (by simp) ?_
    refine AllReadyH.cons rfl (fun K hK => ?_) AllReadyH.nil
    refine step_call rfl 19 #[.tmp 101, .tmp 103] #[31, 31] rfl #[.agg #[.int .u32 s.ch, .int .u64 s.rd, .int .u64 s.m0, .int .u64 s.m1, .int .u64 s.t0, .int .u64 s.t1, .slice a1 n c1], .agg #[.int .u32 t.ch, .int .u64 t.rd, .int .u64 t.m0, .int .u64 t.m1, .int .u64 t.t0, .int .u64 t.t1, .slice a3 n2 c3]] (by simp [Act.eval]) (by go_simp) ((show Calls Try.prog 19 #[.agg #[.int .u32 s.ch, .int .u64 s.rd, .int .u64 s.m0, .int .u64 s.m1, .int .u64 s.t0, .int .u64 s.t1, .slice a1 n c1], .agg #[.int .u32 t.ch, .int .u64 t.rd, .int .u64 t.m0, .int .u64 t.m1, .int .u64 t.t0, .int .u64 t.t1, .slice a3 n2 c3]] X6 (fun e w2 => e = .returned (.bool ds) ∧ Below X6.heap.size X6 w2) from HDS.out ▸ (same_any s.ch s.rd s.m0 s.m1 s.t0 s.t1 a1 n c1 s.cs t.ch t.rd t.m0 t.m1 t.t0 t.t1 a3 n2 c3 t.cs X6 XX6.out.row HL.out (by omega) YX6.out HL2.out (by omega)))) ?_
    rintro e X7 ⟨rfl, hB⟩
    have BX7 : Hid (Below w.heap.size w X7) := Lib.hid (BX6.out.trans (hB.mono BX6.out.size))
    have SX7 : Hid (Blk X7 gs 27 [.int .u32 s.ch, .int .u64 s.rd, .int .u64 s.m0, .int .u64 s.m1, .int .u64 s.t0, .int .u64 s.t1, .slice a n cap]) := Lib.hid (SX6.out.below hB SX6.out.lt)
    have TX7 : Hid (Blk X7 gt 27 [.int .u32 t.ch, .int .u64 t.rd, .int .u64 t.m0, .int .u64 t.m1, .int .u64 t.t0, .int .u64 t.t1, .slice a2 n2 cap2]) := Lib.hid (TX6.out.below hB TX6.out.lt)
    have PX7 : Hid (Blk X7 gp 24 [.int .u64 p0, .int .u64 p1]) := Lib.hid (PX6.out.below hB PX6.out.lt)
    have XX7 : Hid (StAt X7 w.heap.size gx s a1 n c1) := Lib.hid (XX6.out.keep hB)
    clear BX6 SX6 TX6 PX6 XX6 hB YX6
    refine ⟨_, rfl, hK.out _ _ (⟨SX7.out, TX7.out, PX7.out, XX7.out⟩) (fun hHeld => ?_)⟩
    clear hK K
    show wpAnyH _ _ _ _ _ _ _ (Act.put _ (some 104) _) _
    simp only [Act.put, List.setIfInBounds_toArray, List.set_cons_zero, List.set_cons_succ]
    refine wpAnyH_ready (rs := [46]) (by kernel_rfl) (by simp) ?_
    refine AllReadyH.cons rfl (fun K hK => ?_) AllReadyH.nil
    refine step_call rfl 20 #[.tmp 105, .tmp 106] #[27, 27] rfl #[.agg #[.int .u32 s.ch, .int .u64 s.rd, .int .u64 s.m0, .int .u64 s.m1, .int .u64 s.t0, .int .u64 s.t1, .slice a n cap], .agg #[.int .u32 t.ch, .int .u64 t.rd, .int .u64 t.m0, .int .u64 t.m1, .int .u64 t.t0, .int .u64 t.t1, .slice a2 n2 cap2]] (by simp [Act.eval]) (by go_simp) ((show Calls Try.prog 20 #[.agg #[.int .u32 s.ch, .int .u64 s.rd, .int .u64 s.m0, .int .u64 s.m1, .int .u64 s.t0, .int .u64 s.t1, .slice a n cap], .agg #[.int .u32 t.ch, .int .u64 t.rd, .int .u64 t.m0, .int .u64 t.m1, .int .u64 t.t0, .int .u64 t.t1, .slice a2 n2 cap2]] X7 (fun e w2 => e = .returned (.bool ds) ∧ Below X7.heap.size X7 w2) from HDS.out ▸ (rsame_any s.ch s.rd s.m0 s.m1 s.t0 s.t1 a n cap s.cs t.ch t.rd t.m0 t.m1 t.t0 t.t1 a2 n2 cap2 t.cs X7 (HC.out.below BX7.out) HL.out (by omega) (HD.out.below BX7.out) HL2.out (by omega)))) ?_
    rintro e X8 ⟨rfl, hB⟩
    have BX8 : Hid (Below w.heap.size w X8) := Lib.hid (BX7.out.trans (hB.mono BX7.out.size))
    have SX8 : Hid (Blk X8 gs 27 [.int .u32 s.ch, .int .u64 s.rd, .int .u64 s.m0, .int .u64 s.m1, .int .u64 s.t0, .int .u64 s.t1, .slice a n cap]) := Lib.hid (SX7.out.below hB SX7.out.lt)
    have TX8 : Hid (Blk X8 gt 27 [.int .u32 t.ch, .int .u64 t.rd, .int .u64 t.m0, .int .u64 t.m1, .int .u64 t.t0, .int .u64 t.t1, .slice a2 n2 cap2]) := Lib.hid (TX7.out.below hB TX7.out.lt)
    have PX8 : Hid (Blk X8 gp 24 [.int .u64 p0, .int .u64 p1]) := Lib.hid (PX7.out.below hB PX7.out.lt)
    have XX8 : Hid (StAt X8 w.heap.size gx s a1 n c1) := Lib.hid (XX7.out.keep hB)
    clear BX7 SX7 TX7 PX7 XX7 hB
    refine ⟨_, rfl, hK.out _ _ (⟨SX8.out, TX8.out, PX8.out, XX8.out⟩) (fun hHeld => ?_)⟩
    clear hK K
    show wpAnyH _ _ _ _ _ _ _ (Act.put _ (some 107) _) _
    simp only [Act.put, List.setIfInBounds_toArray, List.set_cons_zero, List.set_cons_succ]
    refine wpAnyH_take (i := 47) (v := .bool true) rfl (by kernel_rfl) (by kernel_rfl) (by kernel_rfl) (fun _ _ _ h => h) (Or.inl ⟨by rfl, by intro w' h; go_simp⟩) hHeld ?_
    show wpAnyH _ _ _ _ _ _ _ (Act.put _ (some 108) _) _
    simp only [Act.put, List.setIfInBounds_toArray, List.set_cons_zero, List.set_cons_succ]
    refine wpAnyH_take (i := 48) (v := .bool true) rfl (by kernel_rfl) (by kernel_rfl) (by kernel_rfl) (fun _ _ _ h => h) (Or.inl ⟨by rfl, by intro w hSw; first | rfl | go_simp⟩) hHeld ?_
    show wpAnyH _ _ _ _ _ _ _ (Act.put _ (some 109) _) _
    simp only [Act.put, List.setIfInBounds_toArray, List.set_cons_zero, List.set_cons_succ]
    refine wpAnyH_take (i := 49) (v := .bool true) rfl (by kernel_rfl) (by kernel_rfl) (by kernel_rfl) (fun _ _ _ h => h) (Or.inl ⟨by rfl, fun w _ => by rfl⟩) hHeld ?_
    show wpAnyH _ _ _ _ _ _ _ (Act.put _ (some 110) _) _
    simp only [Act.put, List.setIfInBounds_toArray, List.set_cons_zero, List.set_cons_succ]
    refine wpAnyH_take (i := 50) (v := .agg #[.int .u32 s.ch, .int .u64 s.rd, .int .u64 s.m0, .int .u64 s.m1, .int .u64 s.t0, .int .u64 s.t1, .slice a1 n c1]) rfl (by kernel_rfl) (by kernel_rfl) (by kernel_rfl) (fun _ _ _ h => h) (Or.inl ⟨by rfl, by intro w' h; have q0 := Blk.cell h.2.2.2.blk 0; have q1 := Blk.cell h.2.2.2.blk 1; have q2 := Blk.cell h.2.2.2.blk 2; have q3 := Blk.cell h.2.2.2.blk 3; have q4 := Blk.cell h.2.2.2.blk 4; have q5 := Blk.cell h.2.2.2.blk 5; have q6 := Blk.cell h.2.2.2.blk 6; simp only [List.getElem?_cons_zero, List.getElem?_cons_succ] at q0 q1 q2 q3 q4 q5 q6; go_simp⟩) hHeld ?_
    show wpAnyH _ _ _ _ _ _ _ (Act.put _ (some 111) _) _
    simp only [Act.put, List.setIfInBounds_toArray, List.set_cons_zero, List.set_cons_succ]
    refine wpAnyH_take (i := 51) (v := .agg #[.int .u32 s.ch, .int .u64 s.rd, .int .u64 s.m0, .int .u64 s.m1, .int .u64 s.t0, .int .u64 s.t1, .slice a1 n c1]) rfl (by kernel_rfl) (by kernel_rfl) (by kernel_rfl) (fun _ _ _ h => h) (Or.inl ⟨by rfl, by intro w' h; have q0 := Blk.cell h.2.2.2.blk 0; have q1 := Blk.cell h.2.2.2.blk 1; have q2 := Blk.cell h.2.2.2.blk 2; have q3 := Blk.cell h.2.2.2.blk 3; have q4 := Blk.cell h.2.2.2.blk 4; have q5 := Blk.cell h.2.2.2.blk 5; have q6 := Blk.cell h.2.2.2.blk 6; simp only [List.getElem?_cons_zero, List.getElem?_cons_succ] at q0 q1 q2 q3 q4 q5 q6; go_simp⟩) hHeld ?_
    show wpAnyH _ _ _ _ _ _ _ (Act.put _ (some 112) _) _
    simp only [Act.put, List.setIfInBounds_toArray, List.set_cons_zero, List.set_cons_succ]
    refine wpAnyH_ready (rs := [52]) (by kernel_rfl) (by simp) ?_
    refine AllReadyH.cons rfl (fun K hK => ?_) AllReadyH.nil
    refine step_call rfl 21 #[.tmp 112] #[31] rfl #[.agg #[.int .u32 s.ch, .int .u64 s.rd, .int .u64 s.m0, .int .u64 s.m1, .int .u64 s.t0, .int .u64 s.t1, .slice a1 n c1]] (by simp [Act.eval]) (by go_simp) (twin_any s.ch s.rd s.m0 s.m1 s.t0 s.t1 a1 n c1 s.cs X8 XX8.out.row XX8.out.nil_ HL.out (by omega)) ?_
    rintro e X9 ⟨a4, c4, rfl, hown, hB⟩
    have BX9 : Hid (Below w.heap.size w X9) := Lib.hid (BX8.out.trans (hB.mono BX8.out.size))
    have SX9 : Hid (Blk X9 gs 27 [.int .u32 s.ch, .int .u64 s.rd, .int .u64 s.m0, .int .u64 s.m1, .int .u64 s.t0, .int .u64 s.t1, .slice a n cap]) := Lib.hid (SX8.out.below hB SX8.out.lt)
    have TX9 : Hid (Blk X9 gt 27 [.int .u32 t.ch, .int .u64 t.rd, .int .u64 t.m0, .int .u64 t.m1, .int .u64 t.t0, .int .u64 t.t1, .slice a2 n2 cap2]) := Lib.hid (TX8.out.below hB TX8.out.lt)
    have PX9 : Hid (Blk X9 gp 24 [.int .u64 p0, .int .u64 p1]) := Lib.hid (PX8.out.below hB PX8.out.lt)
    have XX9 : Hid (StAt X9 w.heap.size gx s a1 n c1) := Lib.hid (XX8.out.keep hB)
    have YX9 : Hid (CRow X9 a4 s.cs) := Lib.hid (CRow.of_own (by rw [HL.out]; exact hown) HC.out.ok)
    clear BX8 SX8 TX8 PX8 XX8 hown hB
    refine ⟨_, rfl, hK.out _ _ (⟨SX9.out, TX9.out, PX9.out, XX9.out⟩) (fun hHeld => ?_)⟩
    clear hK K
    show wpAnyH _ _ _ _ _ _ _ (Act.put _ (some 113) _) _
    simp only [Act.put, List.setIfInBounds_toArray, List.set_cons_zero, List.set_cons_succ]
    refine wpAnyH_ready (rs := [53]) (by kernel_rfl) (by simp) ?_
    refine AllReadyH.cons rfl (fun K hK => ?_) AllReadyH.nil
    refine step_call rfl 19 #[.tmp 111, .tmp 113] #[31, 31] rfl #[.agg #[.int .u32 s.ch, .int .u64 s.rd, .int .u64 s.m0, .int .u64 s.m1, .int .u64 s.t0, .int .u64 s.t1, .slice a1 n c1], .agg #[.int .u32 s.ch, .int .u64 s.rd, .int .u64 s.m0, .int .u64 s.m1, .int .u64 s.t0, .int .u64 s.t1, .slice a4 n c4]] (by simp [Act.eval]) (by go_simp) ((show Calls Try.prog 19 #[.agg #[.int .u32 s.ch, .int .u64 s.rd, .int .u64 s.m0, .int .u64 s.m1, .int .u64 s.t0, .int .u64 s.t1, .slice a1 n c1], .agg #[.int .u32 s.ch, .int .u64 s.rd, .int .u64 s.m0, .int .u64 s.m1, .int .u64 s.t0, .int .u64 s.t1, .slice a4 n c4]] X9 (fun e w2 => e = .returned (.bool true) ∧ Below X9.heap.size X9 w2) from (same_any s.ch s.rd s.m0 s.m1 s.t0 s.t1 a1 n c1 s.cs s.ch s.rd s.m0 s.m1 s.t0 s.t1 a4 n c4 s.cs X9 XX9.out.row HL.out (by omega) YX9.out HL.out (by omega)).mono (fun e w2 ⟨h1, h2⟩ => ⟨h1.trans (by simp), h2⟩))) ?_
    rintro e X10 ⟨rfl, hB⟩
    have BX10 : Hid (Below w.heap.size w X10) := Lib.hid (BX9.out.trans (hB.mono BX9.out.size))
    have SX10 : Hid (Blk X10 gs 27 [.int .u32 s.ch, .int .u64 s.rd, .int .u64 s.m0, .int .u64 s.m1, .int .u64 s.t0, .int .u64 s.t1, .slice a n cap]) := Lib.hid (SX9.out.below hB SX9.out.lt)
    have TX10 : Hid (Blk X10 gt 27 [.int .u32 t.ch, .int .u64 t.rd, .int .u64 t.m0, .int .u64 t.m1, .int .u64 t.t0, .int .u64 t.t1, .slice a2 n2 cap2]) := Lib.hid (TX9.out.below hB TX9.out.lt)
    have PX10 : Hid (Blk X10 gp 24 [.int .u64 p0, .int .u64 p1]) := Lib.hid (PX9.out.below hB PX9.out.lt)
    have XX10 : Hid (StAt X10 w.heap.size gx s a1 n c1) := Lib.hid (XX9.out.keep hB)
    clear BX9 SX9 TX9 PX9 XX9 hB YX9
    refine ⟨_, rfl, hK.out _ _ (⟨SX10.out, TX10.out, PX10.out, XX10.out⟩) (fun hHeld => ?_)⟩
    clear hK K
    show wpAnyH _ _ _ _ _ _ _ (Act.put _ (some 114) _) _
    simp only [Act.put, List.setIfInBounds_toArray, List.set_cons_zero, List.set_cons_succ]
    refine wpAnyH_take (i := 54) (v := .bool true) rfl (by kernel_rfl) (by kernel_rfl) (by kernel_rfl) (fun _ _ _ h => h) (Or.inl ⟨by rfl, by intro w hSw; first | rfl | go_simp⟩) hHeld ?_
    show wpAnyH _ _ _ _ _ _ _ (Act.put _ (some 115) _) _
    simp only [Act.put, List.setIfInBounds_toArray, List.set_cons_zero, List.set_cons_succ]
    refine wpAnyH_take (i := 55) (v := .bool true) rfl (by kernel_rfl) (by kernel_rfl) (by kernel_rfl) (fun _ _ _ h => h) (Or.inl ⟨by rfl, fun w _ => by rfl⟩) hHeld ?_
    show wpAnyH _ _ _ _ _ _ _ (Act.put _ (some 116) _) _
    simp only [Act.put, List.setIfInBounds_toArray, List.set_cons_zero, List.set_cons_succ]
    refine wpAnyH_take (i := 56) (v := .pointer (some ⟨gs, 1, none⟩)) rfl (by kernel_rfl) (by kernel_rfl) (by kernel_rfl) (fun _ _ _ h => h) (Or.inl ⟨by rfl, by intro w' h; go_simp⟩) hHeld ?_
    show wpAnyH _ _ _ _ _ _ _ (Act.put _ (some 117) _) _
    simp only [Act.put, List.setIfInBounds_toArray, List.set_cons_zero, List.set_cons_succ]
    refine wpAnyH_take (i := 57) (v := .int .u64 s.rd) rfl (by kernel_rfl) (by kernel_rfl) (by kernel_rfl) (fun _ _ _ h => h) (Or.inl ⟨by rfl, by intro w' h; have q0 := Blk.cell h.1 0; have q1 := Blk.cell h.1 1; have q2 := Blk.cell h.1 2; have q3 := Blk.cell h.1 3; have q4 := Blk.cell h.1 4; have q5 := Blk.cell h.1 5; have q6 := Blk.cell h.1 6; simp only [List.getElem?_cons_zero, List.getElem?_cons_succ] at q0 q1 q2 q3 q4 q5 q6; go_simp⟩) hHeld ?_
    show wpAnyH _ _ _ _ _ _ _ (Act.put _ (some 118) _) _
    simp only [Act.put, List.setIfInBounds_toArray, List.set_cons_zero, List.set_cons_succ]
    refine wpAnyH_take (i := 59) (v := .pointer (some ⟨gs, 1, none⟩)) rfl (by kernel_rfl) (by kernel_rfl) (by kernel_rfl) (fun _ _ _ h => h) (Or.inl ⟨by rfl, by intro w' h; go_simp⟩) hHeld ?_
    show wpAnyH _ _ _ _ _ _ _ (Act.put _ (some 120) _) _
    simp only [Act.put, List.setIfInBounds_toArray, List.set_cons_zero, List.set_cons_succ]
    refine wpAnyH_take (i := 60) (v := .int .u64 s.rd) rfl (by kernel_rfl) (by kernel_rfl) (by kernel_rfl) (fun _ _ _ h => h) (Or.inl ⟨by rfl, by intro w' h; have q0 := Blk.cell h.1 0; have q1 := Blk.cell h.1 1; have q2 := Blk.cell h.1 2; have q3 := Blk.cell h.1 3; have q4 := Blk.cell h.1 4; have q5 := Blk.cell h.1 5; have q6 := Blk.cell h.1 6; simp only [List.getElem?_cons_zero, List.getElem?_cons_succ] at q0 q1 q2 q3 q4 q5 q6; go_simp⟩) hHeld ?_
    show wpAnyH _ _ _ _ _ _ _ (Act.put _ (some 121) _) _
    simp only [Act.put, List.setIfInBounds_toArray, List.set_cons_zero, List.set_cons_succ]
    refine wpAnyH_ready (rs := [58]) (by kernel_rfl) (by simp) ?_
    refine AllReadyH.cons rfl (fun K hK => ?_) AllReadyH.nil
    refine step_call rfl 22 #[.tmp 118] #[23] rfl #[.int .u64 s.rd] (by simp [Act.eval]) (by go_simp) (turn_any s.rd X10 HO.out.rd) ?_
    rintro e X11 ⟨rfl, rfl⟩
    refine ⟨_, rfl, hK.out _ _ (⟨SX10.out, TX10.out, PX10.out, XX10.out⟩) (fun hHeld => ?_)⟩
    clear hK K
    show wpAnyH _ _ _ _ _ _ _ (Act.put _ (some 119) _) _
    simp only [Act.put, List.setIfInBounds_toArray, List.set_cons_zero, List.set_cons_succ]
    refine wpAnyH_ready (rs := [61]) (by kernel_rfl) (by simp) ?_
    refine AllReadyH.cons rfl (fun K hK => ?_) AllReadyH.nil
    refine step_call rfl 23 #[.tmp 121] #[23] rfl #[.int .u64 s.rd] (by simp [Act.eval]) (by go_simp) (rturn_any s.rd X10 HO.out.rd) ?_
    rintro e X12 ⟨rfl, rfl⟩
    refine ⟨_, rfl, hK.out _ _ (⟨SX10.out, TX10.out, PX10.out, XX10.out⟩) (fun hHeld => ?_)⟩
    clear hK K
    show wpAnyH _ _ _ _ _ _ _ (Act.put _ (some 122) _) _
    simp only [Act.put, List.setIfInBounds_toArray, List.set_cons_zero, List.set_cons_succ]
    refine wpAnyH_take (i := 62) (v := .bool true) rfl (by kernel_rfl) (by kernel_rfl) (by kernel_rfl) (fun _ _ _ h => h) (Or.inl ⟨by rfl, by intro w' h; go_simp⟩) hHeld ?_
    show wpAnyH _ _ _ _ _ _ _ (Act.put _ (some 123) _) _
    simp only [Act.put, List.setIfInBounds_toArray, List.set_cons_zero, List.set_cons_succ]
    refine wpAnyH_take (i := 63) (v := .bool true) rfl (by kernel_rfl) (by kernel_rfl) (by kernel_rfl) (fun _ _ _ h => h) (Or.inl ⟨by rfl, by intro w hSw; first | rfl | go_simp⟩) hHeld ?_
    show wpAnyH _ _ _ _ _ _ _ (Act.put _ (some 124) _) _
    simp only [Act.put, List.setIfInBounds_toArray, List.set_cons_zero, List.set_cons_succ]
    refine wpAnyH_take (i := 64) (v := .bool true) rfl (by kernel_rfl) (by kernel_rfl) (by kernel_rfl) (fun _ _ _ h => h) (Or.inl ⟨by rfl, fun w _ => by rfl⟩) hHeld ?_
    show wpAnyH _ _ _ _ _ _ _ (Act.put _ (some 10) _) _
    simp only [Act.put, List.setIfInBounds_toArray, List.set_cons_zero, List.set_cons_succ]
    refine wpAnyH_done (by kernel_rfl) ?_ _
    go_wp2
    go_ret
    exact ⟨rfl, BX10.out⟩
  have b0 : (he != 0) = true := by simpa using h0
  have hv0 := HHZ.out h0
  subst hv0
  clear h0
  go_upto_region 10 with fail
  have hBz : Below G.heap.size G G.drew := below_drewN (Below.refl _ _) 1
  have BX0 : Hid (Below w.heap.size w G.drew) := Lib.hid (BG.out.trans (hBz.mono BG.out.size))
  have SX0 : Hid (Blk G.drew gs 27 [.int .u32 s.ch, .int .u64 s.rd, .int .u64 s.m0, .int .u64 s.m1, .int .u64 s.t0, .int .u64 s.t1, .slice a n cap]) := Lib.hid (SG.out.below hBz SG.out.lt)
  have TX0 : Hid (Blk G.drew gt 27 [.int .u32 t.ch, .int .u64 t.rd, .int .u64 t.m0, .int .u64 t.m1, .int .u64 t.t0, .int .u64 t.t1, .slice a2 n2 cap2]) := Lib.hid (TG.out.below hBz TG.out.lt)
  have PX0 : Hid (Blk G.drew gp 24 [.int .u64 p0, .int .u64 p1]) := Lib.hid (PG.out.below hBz PG.out.lt)
  have XX0 : Hid (StAt G.drew w.heap.size gx s a1 n c1) := Lib.hid (XG.out.keep hBz)
  clear hBz
  refine wp_region_held_drew (S := fun w' => Blk w' gs 27 [.int .u32 s.ch, .int .u64 s.rd, .int .u64 s.m0, .int .u64 s.m1, .int .u64 s.t0, .int .u64 s.t1, .slice a n cap] ∧ Blk w' gt 27 [.int .u32 t.ch, .int .u64 t.rd, .int .u64 t.m0, .int .u64 t.m1, .int .u64 t.t0, .int .u64 t.t1, .slice a2 n2 cap2] ∧ Blk w' gp 24 [.int .u64 p0, .int .u64 p1] ∧ StAt w' w.heap.size gx s a1 n c1) (by kernel_rfl) (⟨SX0.out, TX0.out, PX0.out, XX0.out⟩) (fun hHeld => ?_)
  generalize G.drew = X0 at hHeld BX0 SX0 TX0 PX0 XX0 ⊢
  refine wpAnyH_ready (rs := [0]) (by kernel_rfl) (by simp) ?_
  refine AllReadyH.cons rfl (fun K hK => ?_) AllReadyH.nil
  refine step_call rfl 9 #[] #[] rfl #[] (by simp) (by go_simp) (awake_any X0) ?_
  rintro e X1 ⟨rfl, hB⟩
  have BX1 : Hid (Below w.heap.size w X1) := Lib.hid (BX0.out.trans (hB.mono BX0.out.size))
  have SX1 : Hid (Blk X1 gs 27 [.int .u32 s.ch, .int .u64 s.rd, .int .u64 s.m0, .int .u64 s.m1, .int .u64 s.t0, .int .u64 s.t1, .slice a n cap]) := Lib.hid (SX0.out.below hB SX0.out.lt)
  have TX1 : Hid (Blk X1 gt 27 [.int .u32 t.ch, .int .u64 t.rd, .int .u64 t.m0, .int .u64 t.m1, .int .u64 t.t0, .int .u64 t.t1, .slice a2 n2 cap2]) := Lib.hid (TX0.out.below hB TX0.out.lt)
  have PX1 : Hid (Blk X1 gp 24 [.int .u64 p0, .int .u64 p1]) := Lib.hid (PX0.out.below hB PX0.out.lt)
  have XX1 : Hid (StAt X1 w.heap.size gx s a1 n c1) := Lib.hid (XX0.out.keep hB)
  clear BX0 SX0 TX0 PX0 XX0 hB
  refine ⟨_, rfl, hK.out _ _ (⟨SX1.out, TX1.out, PX1.out, XX1.out⟩) (fun hHeld => ?_)⟩
  clear hK K
  show wpAnyH _ _ _ _ _ _ _ (Act.put _ (some 61) _) _
  simp only [Act.put, List.setIfInBounds_toArray, List.set_cons_zero, List.set_cons_succ]
  refine wpAnyH_take (i := 1) (v := .bool true) rfl (by kernel_rfl) (by kernel_rfl) (by kernel_rfl) (fun _ _ _ h => h) (Or.inl ⟨by rfl, fun w _ => by rfl⟩) hHeld ?_
  show wpAnyH _ _ _ _ _ _ _ (Act.put _ (some 62) _) _
  simp only [Act.put, List.setIfInBounds_toArray, List.set_cons_zero, List.set_cons_succ]
  refine wpAnyH_take (i := 2) (v := .int .u64 0) rfl (by kernel_rfl) (by kernel_rfl) (by kernel_rfl) (fun _ _ _ h => h) (Or.inl ⟨by rfl, fun w _ => by rfl⟩) hHeld ?_
  show wpAnyH _ _ _ _ _ _ _ (Act.put _ (some 63) _) _
  simp only [Act.put, List.setIfInBounds_toArray, List.set_cons_zero, List.set_cons_succ]
  refine wpAnyH_take (i := 3) (v := .int .u64 0) rfl (by kernel_rfl) (by kernel_rfl) (by kernel_rfl) (fun _ _ _ h => h) (Or.inl ⟨by rfl, fun w _ => by rfl⟩) hHeld ?_
  show wpAnyH _ _ _ _ _ _ _ (Act.put _ (some 64) _) _
  simp only [Act.put, List.setIfInBounds_toArray, List.set_cons_zero, List.set_cons_succ]
  refine wpAnyH_take (i := 4) (v := .bool true) rfl (by kernel_rfl) (by kernel_rfl) (by kernel_rfl) (fun _ _ _ h => h) (Or.inl ⟨by rfl, by intro w' h; go_simp⟩) hHeld ?_
  show wpAnyH _ _ _ _ _ _ _ (Act.put _ (some 65) _) _
  simp only [Act.put, List.setIfInBounds_toArray, List.set_cons_zero, List.set_cons_succ]
  refine wpAnyH_take (i := 5) (v := .bool true) rfl (by kernel_rfl) (by kernel_rfl) (by kernel_rfl) (fun _ _ _ h => h) (Or.inl ⟨by rfl, by intro w hSw; first | rfl | go_simp⟩) hHeld ?_
  show wpAnyH _ _ _ _ _ _ _ (Act.put _ (some 66) _) _
  simp only [Act.put, List.setIfInBounds_toArray, List.set_cons_zero, List.set_cons_succ]
  refine wpAnyH_take (i := 6) (v := .bool true) rfl (by kernel_rfl) (by kernel_rfl) (by kernel_rfl) (fun _ _ _ h => h) (Or.inl ⟨by rfl, fun w _ => by rfl⟩) hHeld ?_
  show wpAnyH _ _ _ _ _ _ _ (Act.put _ (some 67) _) _
  simp only [Act.put, List.setIfInBounds_toArray, List.set_cons_zero, List.set_cons_succ]
  refine wpAnyH_take (i := 7) (v := .int .i64 he) rfl (by kernel_rfl) (by kernel_rfl) (by kernel_rfl) (fun _ _ _ h => h) (Or.inl ⟨by rfl, fun w _ => by rfl⟩) hHeld ?_
  show wpAnyH _ _ _ _ _ _ _ (Act.put _ (some 68) _) _
  simp only [Act.put, List.setIfInBounds_toArray, List.set_cons_zero, List.set_cons_succ]
  refine wpAnyH_take (i := 8) (v := .int .i64 he) rfl (by kernel_rfl) (by kernel_rfl) (by kernel_rfl) (fun _ _ _ h => h) (Or.inl ⟨by rfl, fun w _ => by rfl⟩) hHeld ?_
  show wpAnyH _ _ _ _ _ _ _ (Act.put _ (some 69) _) _
  simp only [Act.put, List.setIfInBounds_toArray, List.set_cons_zero, List.set_cons_succ]
  refine wpAnyH_take (i := 9) (v := .bool true) rfl (by kernel_rfl) (by kernel_rfl) (by kernel_rfl) (fun _ _ _ h => h) (Or.inl ⟨by rfl, by intro w' h; go_simp⟩) hHeld ?_
  show wpAnyH _ _ _ _ _ _ _ (Act.put _ (some 70) _) _
  simp only [Act.put, List.setIfInBounds_toArray, List.set_cons_zero, List.set_cons_succ]
  refine wpAnyH_take (i := 10) (v := .bool true) rfl (by kernel_rfl) (by kernel_rfl) (by kernel_rfl) (fun _ _ _ h => h) (Or.inl ⟨by rfl, by intro w hSw; first | rfl | go_simp⟩) hHeld ?_
  show wpAnyH _ _ _ _ _ _ _ (Act.put _ (some 71) _) _
  simp only [Act.put, List.setIfInBounds_toArray, List.set_cons_zero, List.set_cons_succ]
  refine wpAnyH_take (i := 11) (v := .bool true) rfl (by kernel_rfl) (by kernel_rfl) (by kernel_rfl) (fun _ _ _ h => h) (Or.inl ⟨by rfl, fun w _ => by rfl⟩) hHeld ?_
  show wpAnyH _ _ _ _ _ _ _ (Act.put _ (some 72) _) _
  simp only [Act.put, List.setIfInBounds_toArray, List.set_cons_zero, List.set_cons_succ]
  refine wpAnyH_take (i := 12) (v := .int .u64 fv) rfl (by kernel_rfl) (by kernel_rfl) (by kernel_rfl) (fun _ _ _ h => h) (Or.inl ⟨by rfl, fun w _ => by rfl⟩) hHeld ?_
  show wpAnyH _ _ _ _ _ _ _ (Act.put _ (some 73) _) _
  simp only [Act.put, List.setIfInBounds_toArray, List.set_cons_zero, List.set_cons_succ]
  refine wpAnyH_take (i := 13) (v := .int .u64 fv) rfl (by kernel_rfl) (by kernel_rfl) (by kernel_rfl) (fun _ _ _ h => h) (Or.inl ⟨by rfl, fun w _ => by rfl⟩) hHeld ?_
  show wpAnyH _ _ _ _ _ _ _ (Act.put _ (some 74) _) _
  simp only [Act.put, List.setIfInBounds_toArray, List.set_cons_zero, List.set_cons_succ]
  refine wpAnyH_take (i := 14) (v := .bool true) rfl (by kernel_rfl) (by kernel_rfl) (by kernel_rfl) (fun _ _ _ h => h) (Or.inl ⟨by rfl, by intro w' h; go_simp⟩) hHeld ?_
  show wpAnyH _ _ _ _ _ _ _ (Act.put _ (some 75) _) _
  simp only [Act.put, List.setIfInBounds_toArray, List.set_cons_zero, List.set_cons_succ]
  refine wpAnyH_take (i := 15) (v := .bool true) rfl (by kernel_rfl) (by kernel_rfl) (by kernel_rfl) (fun _ _ _ h => h) (Or.inl ⟨by rfl, by intro w hSw; first | rfl | go_simp⟩) hHeld ?_
  show wpAnyH _ _ _ _ _ _ _ (Act.put _ (some 76) _) _
  simp only [Act.put, List.setIfInBounds_toArray, List.set_cons_zero, List.set_cons_succ]
  refine wpAnyH_take (i := 16) (v := .bool true) rfl (by kernel_rfl) (by kernel_rfl) (by kernel_rfl) (fun _ _ _ h => h) (Or.inl ⟨by rfl, fun w _ => by rfl⟩) hHeld ?_
  show wpAnyH _ _ _ _ _ _ _ (Act.put _ (some 77) _) _
  simp only [Act.put, List.setIfInBounds_toArray, List.set_cons_zero, List.set_cons_succ]
  refine wpAnyH_take (i := 17) (v := .int .i64 fe) rfl (by kernel_rfl) (by kernel_rfl) (by kernel_rfl) (fun _ _ _ h => h) (Or.inl ⟨by rfl, fun w _ => by rfl⟩) hHeld ?_
  show wpAnyH _ _ _ _ _ _ _ (Act.put _ (some 78) _) _
  simp only [Act.put, List.setIfInBounds_toArray, List.set_cons_zero, List.set_cons_succ]
  refine wpAnyH_take (i := 18) (v := .int .i64 fe) rfl (by kernel_rfl) (by kernel_rfl) (by kernel_rfl) (fun _ _ _ h => h) (Or.inl ⟨by rfl, fun w _ => by rfl⟩) hHeld ?_
  show wpAnyH _ _ _ _ _ _ _ (Act.put _ (some 79) _) _
  simp only [Act.put, List.setIfInBounds_toArray, List.set_cons_zero, List.set_cons_succ]
  refine wpAnyH_take (i := 19) (v := .bool true) rfl (by kernel_rfl) (by kernel_rfl) (by kernel_rfl) (fun _ _ _ h => h) (Or.inl ⟨by rfl, by intro w' h; go_simp⟩) hHeld ?_
  show wpAnyH _ _ _ _ _ _ _ (Act.put _ (some 80) _) _
  simp only [Act.put, List.setIfInBounds_toArray, List.set_cons_zero, List.set_cons_succ]
  refine wpAnyH_take (i := 20) (v := .bool true) rfl (by kernel_rfl) (by kernel_rfl) (by kernel_rfl) (fun _ _ _ h => h) (Or.inl ⟨by rfl, by intro w hSw; first | rfl | go_simp⟩) hHeld ?_
  show wpAnyH _ _ _ _ _ _ _ (Act.put _ (some 81) _) _
  simp only [Act.put, List.setIfInBounds_toArray, List.set_cons_zero, List.set_cons_succ]
  refine wpAnyH_take (i := 21) (v := .bool true) rfl (by kernel_rfl) (by kernel_rfl) (by kernel_rfl) (fun _ _ _ h => h) (Or.inl ⟨by rfl, fun w _ => by rfl⟩) hHeld ?_
  show wpAnyH _ _ _ _ _ _ _ (Act.put _ (some 82) _) _
  simp only [Act.put, List.setIfInBounds_toArray, List.set_cons_zero, List.set_cons_succ]
  refine wpAnyH_take (i := 22) (v := .agg #[.int .u32 s.ch, .int .u64 s.rd, .int .u64 s.m0, .int .u64 s.m1, .int .u64 s.t0, .int .u64 s.t1, .slice a1 n c1]) rfl (by kernel_rfl) (by kernel_rfl) (by kernel_rfl) (fun _ _ _ h => h) (Or.inl ⟨by rfl, by intro w' h; have q0 := Blk.cell h.2.2.2.blk 0; have q1 := Blk.cell h.2.2.2.blk 1; have q2 := Blk.cell h.2.2.2.blk 2; have q3 := Blk.cell h.2.2.2.blk 3; have q4 := Blk.cell h.2.2.2.blk 4; have q5 := Blk.cell h.2.2.2.blk 5; have q6 := Blk.cell h.2.2.2.blk 6; simp only [List.getElem?_cons_zero, List.getElem?_cons_succ] at q0 q1 q2 q3 q4 q5 q6; go_simp⟩) hHeld ?_
  show wpAnyH _ _ _ _ _ _ _ (Act.put _ (some 83) _) _
  simp only [Act.put, List.setIfInBounds_toArray, List.set_cons_zero, List.set_cons_succ]
  refine wpAnyH_take (i := 23) (v := .agg #[.int .u64 p0, .int .u64 p1]) rfl (by kernel_rfl) (by kernel_rfl) (by kernel_rfl) (fun _ _ _ h => h) (Or.inl ⟨by rfl, by intro w' h; have q0 := Blk.cell h.2.2.1 0; have q1 := Blk.cell h.2.2.1 1; simp only [List.getElem?_cons_zero, List.getElem?_cons_succ] at q0 q1; go_simp⟩) hHeld ?_
  show wpAnyH _ _ _ _ _ _ _ (Act.put _ (some 84) _) _
  simp only [Act.put, List.setIfInBounds_toArray, List.set_cons_zero, List.set_cons_succ]
  refine wpAnyH_take (i := 25) (v := .agg #[.int .u32 s.ch, .int .u64 s.rd, .int .u64 s.m0, .int .u64 s.m1, .int .u64 s.t0, .int .u64 s.t1, .slice a n cap]) rfl (by kernel_rfl) (by kernel_rfl) (by kernel_rfl) (fun _ _ _ h => h) (Or.inl ⟨by rfl, by intro w' h; have q0 := Blk.cell h.1 0; have q1 := Blk.cell h.1 1; have q2 := Blk.cell h.1 2; have q3 := Blk.cell h.1 3; have q4 := Blk.cell h.1 4; have q5 := Blk.cell h.1 5; have q6 := Blk.cell h.1 6; simp only [List.getElem?_cons_zero, List.getElem?_cons_succ] at q0 q1 q2 q3 q4 q5 q6; go_simp⟩) hHeld ?_
  show wpAnyH _ _ _ _ _ _ _ (Act.put _ (some 86) _) _
  simp only [Act.put, List.setIfInBounds_toArray, List.set_cons_zero, List.set_cons_succ]
  refine wpAnyH_take (i := 26) (v := .agg #[.int .u64 p0, .int .u64 p1]) rfl (by kernel_rfl) (by kernel_rfl) (by kernel_rfl) (fun _ _ _ h => h) (Or.inl ⟨by rfl, by intro w' h; have q0 := Blk.cell h.2.2.1 0; have q1 := Blk.cell h.2.2.1 1; simp only [List.getElem?_cons_zero, List.getElem?_cons_succ] at q0 q1; go_simp⟩) hHeld ?_
  show wpAnyH _ _ _ _ _ _ _ (Act.put _ (some 87) _) _
  simp only [Act.put, List.setIfInBounds_toArray, List.set_cons_zero, List.set_cons_succ]
  refine wpAnyH_ready (rs := [24]) (by kernel_rfl) (by simp) ?_
  refine AllReadyH.cons rfl (fun K hK => ?_) AllReadyH.nil
  refine step_call rfl 15 #[.tmp 83, .tmp 84] #[31, 24] rfl #[.agg #[.int .u32 s.ch, .int .u64 s.rd, .int .u64 s.m0, .int .u64 s.m1, .int .u64 s.t0, .int .u64 s.t1, .slice a1 n c1], .agg #[.int .u64 p0, .int .u64 p1]] (by simp [Act.eval]) (by go_simp) ((show Calls Try.prog 15 #[.agg #[.int .u32 s.ch, .int .u64 s.rd, .int .u64 s.m0, .int .u64 s.m1, .int .u64 s.t0, .int .u64 s.t1, .slice a1 n c1], .agg #[.int .u64 p0, .int .u64 p1]] X1 (fun e w2 => e = .returned (.int .i64 so) ∧ Below X1.heap.size X1 w2) from HSO.out ▸ (sound_any s.ch s.rd s.m0 s.m1 s.t0 s.t1 a1 n c1 s.cs p0 p1 X1 XX1.out.row HL.out (by omega) hp0 hp1 HO.out.eta))) ?_
  rintro e X2 ⟨rfl, hB⟩
  have BX2 : Hid (Below w.heap.size w X2) := Lib.hid (BX1.out.trans (hB.mono BX1.out.size))
  have SX2 : Hid (Blk X2 gs 27 [.int .u32 s.ch, .int .u64 s.rd, .int .u64 s.m0, .int .u64 s.m1, .int .u64 s.t0, .int .u64 s.t1, .slice a n cap]) := Lib.hid (SX1.out.below hB SX1.out.lt)
  have TX2 : Hid (Blk X2 gt 27 [.int .u32 t.ch, .int .u64 t.rd, .int .u64 t.m0, .int .u64 t.m1, .int .u64 t.t0, .int .u64 t.t1, .slice a2 n2 cap2]) := Lib.hid (TX1.out.below hB TX1.out.lt)
  have PX2 : Hid (Blk X2 gp 24 [.int .u64 p0, .int .u64 p1]) := Lib.hid (PX1.out.below hB PX1.out.lt)
  have XX2 : Hid (StAt X2 w.heap.size gx s a1 n c1) := Lib.hid (XX1.out.keep hB)
  clear BX1 SX1 TX1 PX1 XX1 hB
  refine ⟨_, rfl, hK.out _ _ (⟨SX2.out, TX2.out, PX2.out, XX2.out⟩) (fun hHeld => ?_)⟩
  clear hK K
  show wpAnyH _ _ _ _ _ _ _ (Act.put _ (some 85) _) _
  simp only [Act.put, List.setIfInBounds_toArray, List.set_cons_zero, List.set_cons_succ]
  refine wpAnyH_ready (rs := [27]) (by kernel_rfl) (by simp) ?_
  refine AllReadyH.cons rfl (fun K hK => ?_) AllReadyH.nil
  refine step_call rfl 16 #[.tmp 86, .tmp 87] #[27, 24] rfl #[.agg #[.int .u32 s.ch, .int .u64 s.rd, .int .u64 s.m0, .int .u64 s.m1, .int .u64 s.t0, .int .u64 s.t1, .slice a n cap], .agg #[.int .u64 p0, .int .u64 p1]] (by simp [Act.eval]) (by go_simp) ((show Calls Try.prog 16 #[.agg #[.int .u32 s.ch, .int .u64 s.rd, .int .u64 s.m0, .int .u64 s.m1, .int .u64 s.t0, .int .u64 s.t1, .slice a n cap], .agg #[.int .u64 p0, .int .u64 p1]] X2 (fun e w2 => e = .returned (.int .i64 so) ∧ Below X2.heap.size X2 w2) from HSO.out ▸ (rsound_any s.ch s.rd s.m0 s.m1 s.t0 s.t1 a n cap s.cs p0 p1 X2 (HC.out.below BX2.out) HL.out (by omega) hp0 hp1 HO.out.eta))) ?_
  rintro e X3 ⟨rfl, hB⟩
  have BX3 : Hid (Below w.heap.size w X3) := Lib.hid (BX2.out.trans (hB.mono BX2.out.size))
  have SX3 : Hid (Blk X3 gs 27 [.int .u32 s.ch, .int .u64 s.rd, .int .u64 s.m0, .int .u64 s.m1, .int .u64 s.t0, .int .u64 s.t1, .slice a n cap]) := Lib.hid (SX2.out.below hB SX2.out.lt)
  have TX3 : Hid (Blk X3 gt 27 [.int .u32 t.ch, .int .u64 t.rd, .int .u64 t.m0, .int .u64 t.m1, .int .u64 t.t0, .int .u64 t.t1, .slice a2 n2 cap2]) := Lib.hid (TX2.out.below hB TX2.out.lt)
  have PX3 : Hid (Blk X3 gp 24 [.int .u64 p0, .int .u64 p1]) := Lib.hid (PX2.out.below hB PX2.out.lt)
  have XX3 : Hid (StAt X3 w.heap.size gx s a1 n c1) := Lib.hid (XX2.out.keep hB)
  clear BX2 SX2 TX2 PX2 XX2 hB
  refine ⟨_, rfl, hK.out _ _ (⟨SX3.out, TX3.out, PX3.out, XX3.out⟩) (fun hHeld => ?_)⟩
  clear hK K
  show wpAnyH _ _ _ _ _ _ _ (Act.put _ (some 88) _) _
  simp only [Act.put, List.setIfInBounds_toArray, List.set_cons_zero, List.set_cons_succ]
  refine wpAnyH_take (i := 28) (v := .bool true) rfl (by kernel_rfl) (by kernel_rfl) (by kernel_rfl) (fun _ _ _ h => h) (Or.inl ⟨by rfl, by intro w' h; go_simp⟩) hHeld ?_
  show wpAnyH _ _ _ _ _ _ _ (Act.put _ (some 89) _) _
  simp only [Act.put, List.setIfInBounds_toArray, List.set_cons_zero, List.set_cons_succ]
  refine wpAnyH_take (i := 29) (v := .bool true) rfl (by kernel_rfl) (by kernel_rfl) (by kernel_rfl) (fun _ _ _ h => h) (Or.inl ⟨by rfl, by intro w hSw; first | rfl | go_simp⟩) hHeld ?_
  show wpAnyH _ _ _ _ _ _ _ (Act.put _ (some 90) _) _
  simp only [Act.put, List.setIfInBounds_toArray, List.set_cons_zero, List.set_cons_succ]
  refine wpAnyH_take (i := 30) (v := .bool true) rfl (by kernel_rfl) (by kernel_rfl) (by kernel_rfl) (fun _ _ _ h => h) (Or.inl ⟨by rfl, fun w _ => by rfl⟩) hHeld ?_
  show wpAnyH _ _ _ _ _ _ _ (Act.put _ (some 91) _) _
  simp only [Act.put, List.setIfInBounds_toArray, List.set_cons_zero, List.set_cons_succ]
  refine wpAnyH_take (i := 31) (v := .agg #[.int .u32 s.ch, .int .u64 s.rd, .int .u64 s.m0, .int .u64 s.m1, .int .u64 s.t0, .int .u64 s.t1, .slice a1 n c1]) rfl (by kernel_rfl) (by kernel_rfl) (by kernel_rfl) (fun _ _ _ h => h) (Or.inl ⟨by rfl, by intro w' h; have q0 := Blk.cell h.2.2.2.blk 0; have q1 := Blk.cell h.2.2.2.blk 1; have q2 := Blk.cell h.2.2.2.blk 2; have q3 := Blk.cell h.2.2.2.blk 3; have q4 := Blk.cell h.2.2.2.blk 4; have q5 := Blk.cell h.2.2.2.blk 5; have q6 := Blk.cell h.2.2.2.blk 6; simp only [List.getElem?_cons_zero, List.getElem?_cons_succ] at q0 q1 q2 q3 q4 q5 q6; go_simp⟩) hHeld ?_
  show wpAnyH _ _ _ _ _ _ _ (Act.put _ (some 92) _) _
  simp only [Act.put, List.setIfInBounds_toArray, List.set_cons_zero, List.set_cons_succ]
  refine wpAnyH_take (i := 32) (v := .int .u64 id) rfl (by kernel_rfl) (by kernel_rfl) (by kernel_rfl) (fun _ _ _ h => h) (Or.inl ⟨by rfl, fun w _ => by rfl⟩) hHeld ?_
  show wpAnyH _ _ _ _ _ _ _ (Act.put _ (some 93) _) _
  simp only [Act.put, List.setIfInBounds_toArray, List.set_cons_zero, List.set_cons_succ]
  refine wpAnyH_take (i := 34) (v := .agg #[.int .u32 s.ch, .int .u64 s.rd, .int .u64 s.m0, .int .u64 s.m1, .int .u64 s.t0, .int .u64 s.t1, .slice a n cap]) rfl (by kernel_rfl) (by kernel_rfl) (by kernel_rfl) (fun _ _ _ h => h) (Or.inl ⟨by rfl, by intro w' h; have q0 := Blk.cell h.1 0; have q1 := Blk.cell h.1 1; have q2 := Blk.cell h.1 2; have q3 := Blk.cell h.1 3; have q4 := Blk.cell h.1 4; have q5 := Blk.cell h.1 5; have q6 := Blk.cell h.1 6; simp only [List.getElem?_cons_zero, List.getElem?_cons_succ] at q0 q1 q2 q3 q4 q5 q6; go_simp⟩) hHeld ?_
  show wpAnyH _ _ _ _ _ _ _ (Act.put _ (some 95) _) _
  simp only [Act.put, List.setIfInBounds_toArray, List.set_cons_zero, List.set_cons_succ]
  refine wpAnyH_take (i := 35) (v := .int .u64 id) rfl (by kernel_rfl) (by kernel_rfl) (by kernel_rfl) (fun _ _ _ h => h) (Or.inl ⟨by rfl, fun w _ => by rfl⟩) hHeld ?_
  show wpAnyH _ _ _ _ _ _ _ (Act.put _ (some 96) _) _
  simp only [Act.put, List.setIfInBounds_toArray, List.set_cons_zero, List.set_cons_succ]
  refine wpAnyH_ready (rs := [33]) (by kernel_rfl) (by simp) ?_
  refine AllReadyH.cons rfl (fun K hK => ?_) AllReadyH.nil
  refine step_call rfl 17 #[.tmp 92, .tmp 93] #[31, 23] rfl #[.agg #[.int .u32 s.ch, .int .u64 s.rd, .int .u64 s.m0, .int .u64 s.m1, .int .u64 s.t0, .int .u64 s.t1, .slice a1 n c1], .int .u64 id] (by simp [Act.eval]) (by go_simp) (HFD.out ▸ (find_any s.ch s.rd s.m0 s.m1 s.t0 s.t1 a1 n c1 s.cs id X3 XX3.out.row HL.out (by omega))) ?_
  rintro e X4 ⟨rfl, hB⟩
  have BX4 : Hid (Below w.heap.size w X4) := Lib.hid (BX3.out.trans (hB.mono BX3.out.size))
  have SX4 : Hid (Blk X4 gs 27 [.int .u32 s.ch, .int .u64 s.rd, .int .u64 s.m0, .int .u64 s.m1, .int .u64 s.t0, .int .u64 s.t1, .slice a n cap]) := Lib.hid (SX3.out.below hB SX3.out.lt)
  have TX4 : Hid (Blk X4 gt 27 [.int .u32 t.ch, .int .u64 t.rd, .int .u64 t.m0, .int .u64 t.m1, .int .u64 t.t0, .int .u64 t.t1, .slice a2 n2 cap2]) := Lib.hid (TX3.out.below hB TX3.out.lt)
  have PX4 : Hid (Blk X4 gp 24 [.int .u64 p0, .int .u64 p1]) := Lib.hid (PX3.out.below hB PX3.out.lt)
  have XX4 : Hid (StAt X4 w.heap.size gx s a1 n c1) := Lib.hid (XX3.out.keep hB)
  clear BX3 SX3 TX3 PX3 XX3 hB
  refine ⟨_, rfl, hK.out _ _ (⟨SX4.out, TX4.out, PX4.out, XX4.out⟩) (fun hHeld => ?_)⟩
  clear hK K
  show wpAnyH _ _ _ _ _ _ _ (Act.put _ (some 94) _) _
  simp only [Act.put, List.setIfInBounds_toArray, List.set_cons_zero, List.set_cons_succ]
  refine wpAnyH_ready (rs := [36]) (by kernel_rfl) (by simp) ?_
  refine AllReadyH.cons rfl (fun K hK => ?_) AllReadyH.nil
  refine step_call rfl 18 #[.tmp 95, .tmp 96] #[27, 23] rfl #[.agg #[.int .u32 s.ch, .int .u64 s.rd, .int .u64 s.m0, .int .u64 s.m1, .int .u64 s.t0, .int .u64 s.t1, .slice a n cap], .int .u64 id] (by simp [Act.eval]) (by go_simp) (HFD.out ▸ (rfind_any s.ch s.rd s.m0 s.m1 s.t0 s.t1 a n cap s.cs id X4 (HC.out.below BX4.out) HL.out (by omega))) ?_
  rintro e X5 ⟨rfl, hB⟩
  have BX5 : Hid (Below w.heap.size w X5) := Lib.hid (BX4.out.trans (hB.mono BX4.out.size))
  have SX5 : Hid (Blk X5 gs 27 [.int .u32 s.ch, .int .u64 s.rd, .int .u64 s.m0, .int .u64 s.m1, .int .u64 s.t0, .int .u64 s.t1, .slice a n cap]) := Lib.hid (SX4.out.below hB SX4.out.lt)
  have TX5 : Hid (Blk X5 gt 27 [.int .u32 t.ch, .int .u64 t.rd, .int .u64 t.m0, .int .u64 t.m1, .int .u64 t.t0, .int .u64 t.t1, .slice a2 n2 cap2]) := Lib.hid (TX4.out.below hB TX4.out.lt)
  have PX5 : Hid (Blk X5 gp 24 [.int .u64 p0, .int .u64 p1]) := Lib.hid (PX4.out.below hB PX4.out.lt)
  have XX5 : Hid (StAt X5 w.heap.size gx s a1 n c1) := Lib.hid (XX4.out.keep hB)
  clear BX4 SX4 TX4 PX4 XX4 hB
  refine ⟨_, rfl, hK.out _ _ (⟨SX5.out, TX5.out, PX5.out, XX5.out⟩) (fun hHeld => ?_)⟩
  clear hK K
  show wpAnyH _ _ _ _ _ _ _ (Act.put _ (some 97) _) _
  simp only [Act.put, List.setIfInBounds_toArray, List.set_cons_zero, List.set_cons_succ]
  refine wpAnyH_take (i := 37) (v := .bool true) rfl (by kernel_rfl) (by kernel_rfl) (by kernel_rfl) (fun _ _ _ h => h) (Or.inl ⟨by rfl, by intro w' h; go_simp⟩) hHeld ?_
  show wpAnyH _ _ _ _ _ _ _ (Act.put _ (some 98) _) _
  simp only [Act.put, List.setIfInBounds_toArray, List.set_cons_zero, List.set_cons_succ]
  refine wpAnyH_take (i := 38) (v := .bool true) rfl (by kernel_rfl) (by kernel_rfl) (by kernel_rfl) (fun _ _ _ h => h) (Or.inl ⟨by rfl, by intro w hSw; first | rfl | go_simp⟩) hHeld ?_
  show wpAnyH _ _ _ _ _ _ _ (Act.put _ (some 99) _) _
  simp only [Act.put, List.setIfInBounds_toArray, List.set_cons_zero, List.set_cons_succ]
  refine wpAnyH_take (i := 39) (v := .bool true) rfl (by kernel_rfl) (by kernel_rfl) (by kernel_rfl) (fun _ _ _ h => h) (Or.inl ⟨by rfl, fun w _ => by rfl⟩) hHeld ?_
  show wpAnyH _ _ _ _ _ _ _ (Act.put _ (some 100) _) _
  simp only [Act.put, List.setIfInBounds_toArray, List.set_cons_zero, List.set_cons_succ]
  refine wpAnyH_take (i := 40) (v := .agg #[.int .u32 s.ch, .int .u64 s.rd, .int .u64 s.m0, .int .u64 s.m1, .int .u64 s.t0, .int .u64 s.t1, .slice a1 n c1]) rfl (by kernel_rfl) (by kernel_rfl) (by kernel_rfl) (fun _ _ _ h => h) (Or.inl ⟨by rfl, by intro w' h; have q0 := Blk.cell h.2.2.2.blk 0; have q1 := Blk.cell h.2.2.2.blk 1; have q2 := Blk.cell h.2.2.2.blk 2; have q3 := Blk.cell h.2.2.2.blk 3; have q4 := Blk.cell h.2.2.2.blk 4; have q5 := Blk.cell h.2.2.2.blk 5; have q6 := Blk.cell h.2.2.2.blk 6; simp only [List.getElem?_cons_zero, List.getElem?_cons_succ] at q0 q1 q2 q3 q4 q5 q6; go_simp⟩) hHeld ?_
  show wpAnyH _ _ _ _ _ _ _ (Act.put _ (some 101) _) _
  simp only [Act.put, List.setIfInBounds_toArray, List.set_cons_zero, List.set_cons_succ]
  refine wpAnyH_take (i := 41) (v := .agg #[.int .u32 t.ch, .int .u64 t.rd, .int .u64 t.m0, .int .u64 t.m1, .int .u64 t.t0, .int .u64 t.t1, .slice a2 n2 cap2]) rfl (by kernel_rfl) (by kernel_rfl) (by kernel_rfl) (fun _ _ _ h => h) (Or.inl ⟨by rfl, by intro w' h; have q0 := Blk.cell h.2.1 0; have q1 := Blk.cell h.2.1 1; have q2 := Blk.cell h.2.1 2; have q3 := Blk.cell h.2.1 3; have q4 := Blk.cell h.2.1 4; have q5 := Blk.cell h.2.1 5; have q6 := Blk.cell h.2.1 6; simp only [List.getElem?_cons_zero, List.getElem?_cons_succ] at q0 q1 q2 q3 q4 q5 q6; go_simp⟩) hHeld ?_
  show wpAnyH _ _ _ _ _ _ _ (Act.put _ (some 102) _) _
  simp only [Act.put, List.setIfInBounds_toArray, List.set_cons_zero, List.set_cons_succ]
  refine wpAnyH_take (i := 44) (v := .agg #[.int .u32 s.ch, .int .u64 s.rd, .int .u64 s.m0, .int .u64 s.m1, .int .u64 s.t0, .int .u64 s.t1, .slice a n cap]) rfl (by kernel_rfl) (by kernel_rfl) (by kernel_rfl) (fun _ _ _ h => h) (Or.inl ⟨by rfl, by intro w' h; have q0 := Blk.cell h.1 0; have q1 := Blk.cell h.1 1; have q2 := Blk.cell h.1 2; have q3 := Blk.cell h.1 3; have q4 := Blk.cell h.1 4; have q5 := Blk.cell h.1 5; have q6 := Blk.cell h.1 6; simp only [List.getElem?_cons_zero, List.getElem?_cons_succ] at q0 q1 q2 q3 q4 q5 q6; go_simp⟩) hHeld ?_
  show wpAnyH _ _ _ _ _ _ _ (Act.put _ (some 105) _) _
  simp only [Act.put, List.setIfInBounds_toArray, List.set_cons_zero, List.set_cons_succ]
  refine wpAnyH_take (i := 45) (v := .agg #[.int .u32 t.ch, .int .u64 t.rd, .int .u64 t.m0, .int .u64 t.m1, .int .u64 t.t0, .int .u64 t.t1, .slice a2 n2 cap2]) rfl (by kernel_rfl) (by kernel_rfl) (by kernel_rfl) (fun _ _ _ h => h) (Or.inl ⟨by rfl, by intro w' h; have q0 := Blk.cell h.2.1 0; have q1 := Blk.cell h.2.1 1; have q2 := Blk.cell h.2.1 2; have q3 := Blk.cell h.2.1 3; have q4 := Blk.cell h.2.1 4; have q5 := Blk.cell h.2.1 5; have q6 := Blk.cell h.2.1 6; simp only [List.getElem?_cons_zero, List.getElem?_cons_succ] at q0 q1 q2 q3 q4 q5 q6; go_simp⟩) hHeld ?_
  show wpAnyH _ _ _ _ _ _ _ (Act.put _ (some 106) _) _
  simp only [Act.put, List.setIfInBounds_toArray, List.set_cons_zero, List.set_cons_succ]
  refine wpAnyH_ready (rs := [42]) (by kernel_rfl) (by simp) ?_
  refine AllReadyH.cons rfl (fun K hK => ?_) AllReadyH.nil
  refine step_call rfl 10 #[.tmp 102] #[27] rfl #[.agg #[.int .u32 t.ch, .int .u64 t.rd, .int .u64 t.m0, .int .u64 t.m1, .int .u64 t.t0, .int .u64 t.t1, .slice a2 n2 cap2]] (by simp [Act.eval]) (by go_simp) (to_any t.ch t.rd t.m0 t.m1 t.t0 t.t1 a2 n2 cap2 t.cs X5 (HD.out.below BX5.out) HL2.out (by omega)) ?_
  rintro e X6 ⟨a3, c3, rfl, hown, hB⟩
  have BX6 : Hid (Below w.heap.size w X6) := Lib.hid (BX5.out.trans (hB.mono BX5.out.size))
  have SX6 : Hid (Blk X6 gs 27 [.int .u32 s.ch, .int .u64 s.rd, .int .u64 s.m0, .int .u64 s.m1, .int .u64 s.t0, .int .u64 s.t1, .slice a n cap]) := Lib.hid (SX5.out.below hB SX5.out.lt)
  have TX6 : Hid (Blk X6 gt 27 [.int .u32 t.ch, .int .u64 t.rd, .int .u64 t.m0, .int .u64 t.m1, .int .u64 t.t0, .int .u64 t.t1, .slice a2 n2 cap2]) := Lib.hid (TX5.out.below hB TX5.out.lt)
  have PX6 : Hid (Blk X6 gp 24 [.int .u64 p0, .int .u64 p1]) := Lib.hid (PX5.out.below hB PX5.out.lt)
  have XX6 : Hid (StAt X6 w.heap.size gx s a1 n c1) := Lib.hid (XX5.out.keep hB)
  have YX6 : Hid (CRow X6 a3 t.cs) := Lib.hid (CRow.of_own (by rw [HL2.out]; exact hown) HD.out.ok)
  clear BX5 SX5 TX5 PX5 XX5 hown hB
  refine ⟨_, rfl, hK.out _ _ (⟨SX6.out, TX6.out, PX6.out, XX6.out⟩) (fun hHeld => ?_)⟩
  clear hK K
  show wpAnyH _ _ _ _ _ _ _ (Act.put _ (some 103) _) _
  simp only [Act.put, List.setIfInBounds_toArray, List.set_cons_zero, List.set_cons_succ]
  refine wpAnyH_ready (rs := [43]) (by kernel_rfl) (by simp) ?_
  refine AllReadyH.cons rfl (fun K hK => ?_) AllReadyH.nil
  refine step_call rfl 19 #[.tmp 101, .tmp 103] #[31, 31] rfl #[.agg #[.int .u32 s.ch, .int .u64 s.rd, .int .u64 s.m0, .int .u64 s.m1, .int .u64 s.t0, .int .u64 s.t1, .slice a1 n c1], .agg #[.int .u32 t.ch, .int .u64 t.rd, .int .u64 t.m0, .int .u64 t.m1, .int .u64 t.t0, .int .u64 t.t1, .slice a3 n2 c3]] (by simp [Act.eval]) (by go_simp) ((show Calls Try.prog 19 #[.agg #[.int .u32 s.ch, .int .u64 s.rd, .int .u64 s.m0, .int .u64 s.m1, .int .u64 s.t0, .int .u64 s.t1, .slice a1 n c1], .agg #[.int .u32 t.ch, .int .u64 t.rd, .int .u64 t.m0, .int .u64 t.m1, .int .u64 t.t0, .int .u64 t.t1, .slice a3 n2 c3]] X6 (fun e w2 => e = .returned (.bool ds) ∧ Below X6.heap.size X6 w2) from HDS.out ▸ (same_any s.ch s.rd s.m0 s.m1 s.t0 s.t1 a1 n c1 s.cs t.ch t.rd t.m0 t.m1 t.t0 t.t1 a3 n2 c3 t.cs X6 XX6.out.row HL.out (by omega) YX6.out HL2.out (by omega)))) ?_
  rintro e X7 ⟨rfl, hB⟩
  have BX7 : Hid (Below w.heap.size w X7) := Lib.hid (BX6.out.trans (hB.mono BX6.out.size))
  have SX7 : Hid (Blk X7 gs 27 [.int .u32 s.ch, .int .u64 s.rd, .int .u64 s.m0, .int .u64 s.m1, .int .u64 s.t0, .int .u64 s.t1, .slice a n cap]) := Lib.hid (SX6.out.below hB SX6.out.lt)
  have TX7 : Hid (Blk X7 gt 27 [.int .u32 t.ch, .int .u64 t.rd, .int .u64 t.m0, .int .u64 t.m1, .int .u64 t.t0, .int .u64 t.t1, .slice a2 n2 cap2]) := Lib.hid (TX6.out.below hB TX6.out.lt)
  have PX7 : Hid (Blk X7 gp 24 [.int .u64 p0, .int .u64 p1]) := Lib.hid (PX6.out.below hB PX6.out.lt)
  have XX7 : Hid (StAt X7 w.heap.size gx s a1 n c1) := Lib.hid (XX6.out.keep hB)
  clear BX6 SX6 TX6 PX6 XX6 hB YX6
  refine ⟨_, rfl, hK.out _ _ (⟨SX7.out, TX7.out, PX7.out, XX7.out⟩) (fun hHeld => ?_)⟩
  clear hK K
  show wpAnyH _ _ _ _ _ _ _ (Act.put _ (some 104) _) _
  simp only [Act.put, List.setIfInBounds_toArray, List.set_cons_zero, List.set_cons_succ]
  refine wpAnyH_ready (rs := [46]) (by kernel_rfl) (by simp) ?_
  refine AllReadyH.cons rfl (fun K hK => ?_) AllReadyH.nil
  refine step_call rfl 20 #[.tmp 105, .tmp 106] #[27, 27] rfl #[.agg #[.int .u32 s.ch, .int .u64 s.rd, .int .u64 s.m0, .int .u64 s.m1, .int .u64 s.t0, .int .u64 s.t1, .slice a n cap], .agg #[.int .u32 t.ch, .int .u64 t.rd, .int .u64 t.m0, .int .u64 t.m1, .int .u64 t.t0, .int .u64 t.t1, .slice a2 n2 cap2]] (by simp [Act.eval]) (by go_simp) ((show Calls Try.prog 20 #[.agg #[.int .u32 s.ch, .int .u64 s.rd, .int .u64 s.m0, .int .u64 s.m1, .int .u64 s.t0, .int .u64 s.t1, .slice a n cap], .agg #[.int .u32 t.ch, .int .u64 t.rd, .int .u64 t.m0, .int .u64 t.m1, .int .u64 t.t0, .int .u64 t.t1, .slice a2 n2 cap2]] X7 (fun e w2 => e = .returned (.bool ds) ∧ Below X7.heap.size X7 w2) from HDS.out ▸ (rsame_any s.ch s.rd s.m0 s.m1 s.t0 s.t1 a n cap s.cs t.ch t.rd t.m0 t.m1 t.t0 t.t1 a2 n2 cap2 t.cs X7 (HC.out.below BX7.out) HL.out (by omega) (HD.out.below BX7.out) HL2.out (by omega)))) ?_
  rintro e X8 ⟨rfl, hB⟩
  have BX8 : Hid (Below w.heap.size w X8) := Lib.hid (BX7.out.trans (hB.mono BX7.out.size))
  have SX8 : Hid (Blk X8 gs 27 [.int .u32 s.ch, .int .u64 s.rd, .int .u64 s.m0, .int .u64 s.m1, .int .u64 s.t0, .int .u64 s.t1, .slice a n cap]) := Lib.hid (SX7.out.below hB SX7.out.lt)
  have TX8 : Hid (Blk X8 gt 27 [.int .u32 t.ch, .int .u64 t.rd, .int .u64 t.m0, .int .u64 t.m1, .int .u64 t.t0, .int .u64 t.t1, .slice a2 n2 cap2]) := Lib.hid (TX7.out.below hB TX7.out.lt)
  have PX8 : Hid (Blk X8 gp 24 [.int .u64 p0, .int .u64 p1]) := Lib.hid (PX7.out.below hB PX7.out.lt)
  have XX8 : Hid (StAt X8 w.heap.size gx s a1 n c1) := Lib.hid (XX7.out.keep hB)
  clear BX7 SX7 TX7 PX7 XX7 hB
  refine ⟨_, rfl, hK.out _ _ (⟨SX8.out, TX8.out, PX8.out, XX8.out⟩) (fun hHeld => ?_)⟩
  clear hK K
  show wpAnyH _ _ _ _ _ _ _ (Act.put _ (some 107) _) _
  simp only [Act.put, List.setIfInBounds_toArray, List.set_cons_zero, List.set_cons_succ]
  refine wpAnyH_take (i := 47) (v := .bool true) rfl (by kernel_rfl) (by kernel_rfl) (by kernel_rfl) (fun _ _ _ h => h) (Or.inl ⟨by rfl, by intro w' h; go_simp⟩) hHeld ?_
  show wpAnyH _ _ _ _ _ _ _ (Act.put _ (some 108) _) _
  simp only [Act.put, List.setIfInBounds_toArray, List.set_cons_zero, List.set_cons_succ]
  refine wpAnyH_take (i := 48) (v := .bool true) rfl (by kernel_rfl) (by kernel_rfl) (by kernel_rfl) (fun _ _ _ h => h) (Or.inl ⟨by rfl, by intro w hSw; first | rfl | go_simp⟩) hHeld ?_
  show wpAnyH _ _ _ _ _ _ _ (Act.put _ (some 109) _) _
  simp only [Act.put, List.setIfInBounds_toArray, List.set_cons_zero, List.set_cons_succ]
  refine wpAnyH_take (i := 49) (v := .bool true) rfl (by kernel_rfl) (by kernel_rfl) (by kernel_rfl) (fun _ _ _ h => h) (Or.inl ⟨by rfl, fun w _ => by rfl⟩) hHeld ?_
  show wpAnyH _ _ _ _ _ _ _ (Act.put _ (some 110) _) _
  simp only [Act.put, List.setIfInBounds_toArray, List.set_cons_zero, List.set_cons_succ]
  refine wpAnyH_take (i := 50) (v := .agg #[.int .u32 s.ch, .int .u64 s.rd, .int .u64 s.m0, .int .u64 s.m1, .int .u64 s.t0, .int .u64 s.t1, .slice a1 n c1]) rfl (by kernel_rfl) (by kernel_rfl) (by kernel_rfl) (fun _ _ _ h => h) (Or.inl ⟨by rfl, by intro w' h; have q0 := Blk.cell h.2.2.2.blk 0; have q1 := Blk.cell h.2.2.2.blk 1; have q2 := Blk.cell h.2.2.2.blk 2; have q3 := Blk.cell h.2.2.2.blk 3; have q4 := Blk.cell h.2.2.2.blk 4; have q5 := Blk.cell h.2.2.2.blk 5; have q6 := Blk.cell h.2.2.2.blk 6; simp only [List.getElem?_cons_zero, List.getElem?_cons_succ] at q0 q1 q2 q3 q4 q5 q6; go_simp⟩) hHeld ?_
  show wpAnyH _ _ _ _ _ _ _ (Act.put _ (some 111) _) _
  simp only [Act.put, List.setIfInBounds_toArray, List.set_cons_zero, List.set_cons_succ]
  refine wpAnyH_take (i := 51) (v := .agg #[.int .u32 s.ch, .int .u64 s.rd, .int .u64 s.m0, .int .u64 s.m1, .int .u64 s.t0, .int .u64 s.t1, .slice a1 n c1]) rfl (by kernel_rfl) (by kernel_rfl) (by kernel_rfl) (fun _ _ _ h => h) (Or.inl ⟨by rfl, by intro w' h; have q0 := Blk.cell h.2.2.2.blk 0; have q1 := Blk.cell h.2.2.2.blk 1; have q2 := Blk.cell h.2.2.2.blk 2; have q3 := Blk.cell h.2.2.2.blk 3; have q4 := Blk.cell h.2.2.2.blk 4; have q5 := Blk.cell h.2.2.2.blk 5; have q6 := Blk.cell h.2.2.2.blk 6; simp only [List.getElem?_cons_zero, List.getElem?_cons_succ] at q0 q1 q2 q3 q4 q5 q6; go_simp⟩) hHeld ?_
  show wpAnyH _ _ _ _ _ _ _ (Act.put _ (some 112) _) _
  simp only [Act.put, List.setIfInBounds_toArray, List.set_cons_zero, List.set_cons_succ]
  refine wpAnyH_ready (rs := [52]) (by kernel_rfl) (by simp) ?_
  refine AllReadyH.cons rfl (fun K hK => ?_) AllReadyH.nil
  refine step_call rfl 21 #[.tmp 112] #[31] rfl #[.agg #[.int .u32 s.ch, .int .u64 s.rd, .int .u64 s.m0, .int .u64 s.m1, .int .u64 s.t0, .int .u64 s.t1, .slice a1 n c1]] (by simp [Act.eval]) (by go_simp) (twin_any s.ch s.rd s.m0 s.m1 s.t0 s.t1 a1 n c1 s.cs X8 XX8.out.row XX8.out.nil_ HL.out (by omega)) ?_
  rintro e X9 ⟨a4, c4, rfl, hown, hB⟩
  have BX9 : Hid (Below w.heap.size w X9) := Lib.hid (BX8.out.trans (hB.mono BX8.out.size))
  have SX9 : Hid (Blk X9 gs 27 [.int .u32 s.ch, .int .u64 s.rd, .int .u64 s.m0, .int .u64 s.m1, .int .u64 s.t0, .int .u64 s.t1, .slice a n cap]) := Lib.hid (SX8.out.below hB SX8.out.lt)
  have TX9 : Hid (Blk X9 gt 27 [.int .u32 t.ch, .int .u64 t.rd, .int .u64 t.m0, .int .u64 t.m1, .int .u64 t.t0, .int .u64 t.t1, .slice a2 n2 cap2]) := Lib.hid (TX8.out.below hB TX8.out.lt)
  have PX9 : Hid (Blk X9 gp 24 [.int .u64 p0, .int .u64 p1]) := Lib.hid (PX8.out.below hB PX8.out.lt)
  have XX9 : Hid (StAt X9 w.heap.size gx s a1 n c1) := Lib.hid (XX8.out.keep hB)
  have YX9 : Hid (CRow X9 a4 s.cs) := Lib.hid (CRow.of_own (by rw [HL.out]; exact hown) HC.out.ok)
  clear BX8 SX8 TX8 PX8 XX8 hown hB
  refine ⟨_, rfl, hK.out _ _ (⟨SX9.out, TX9.out, PX9.out, XX9.out⟩) (fun hHeld => ?_)⟩
  clear hK K
  show wpAnyH _ _ _ _ _ _ _ (Act.put _ (some 113) _) _
  simp only [Act.put, List.setIfInBounds_toArray, List.set_cons_zero, List.set_cons_succ]
  refine wpAnyH_ready (rs := [53]) (by kernel_rfl) (by simp) ?_
  refine AllReadyH.cons rfl (fun K hK => ?_) AllReadyH.nil
  refine step_call rfl 19 #[.tmp 111, .tmp 113] #[31, 31] rfl #[.agg #[.int .u32 s.ch, .int .u64 s.rd, .int .u64 s.m0, .int .u64 s.m1, .int .u64 s.t0, .int .u64 s.t1, .slice a1 n c1], .agg #[.int .u32 s.ch, .int .u64 s.rd, .int .u64 s.m0, .int .u64 s.m1, .int .u64 s.t0, .int .u64 s.t1, .slice a4 n c4]] (by simp [Act.eval]) (by go_simp) ((show Calls Try.prog 19 #[.agg #[.int .u32 s.ch, .int .u64 s.rd, .int .u64 s.m0, .int .u64 s.m1, .int .u64 s.t0, .int .u64 s.t1, .slice a1 n c1], .agg #[.int .u32 s.ch, .int .u64 s.rd, .int .u64 s.m0, .int .u64 s.m1, .int .u64 s.t0, .int .u64 s.t1, .slice a4 n c4]] X9 (fun e w2 => e = .returned (.bool true) ∧ Below X9.heap.size X9 w2) from (same_any s.ch s.rd s.m0 s.m1 s.t0 s.t1 a1 n c1 s.cs s.ch s.rd s.m0 s.m1 s.t0 s.t1 a4 n c4 s.cs X9 XX9.out.row HL.out (by omega) YX9.out HL.out (by omega)).mono (fun e w2 ⟨h1, h2⟩ => ⟨h1.trans (by simp), h2⟩))) ?_
  rintro e X10 ⟨rfl, hB⟩
  have BX10 : Hid (Below w.heap.size w X10) := Lib.hid (BX9.out.trans (hB.mono BX9.out.size))
  have SX10 : Hid (Blk X10 gs 27 [.int .u32 s.ch, .int .u64 s.rd, .int .u64 s.m0, .int .u64 s.m1, .int .u64 s.t0, .int .u64 s.t1, .slice a n cap]) := Lib.hid (SX9.out.below hB SX9.out.lt)
  have TX10 : Hid (Blk X10 gt 27 [.int .u32 t.ch, .int .u64 t.rd, .int .u64 t.m0, .int .u64 t.m1, .int .u64 t.t0, .int .u64 t.t1, .slice a2 n2 cap2]) := Lib.hid (TX9.out.below hB TX9.out.lt)
  have PX10 : Hid (Blk X10 gp 24 [.int .u64 p0, .int .u64 p1]) := Lib.hid (PX9.out.below hB PX9.out.lt)
  have XX10 : Hid (StAt X10 w.heap.size gx s a1 n c1) := Lib.hid (XX9.out.keep hB)
  clear BX9 SX9 TX9 PX9 XX9 hB YX9
  refine ⟨_, rfl, hK.out _ _ (⟨SX10.out, TX10.out, PX10.out, XX10.out⟩) (fun hHeld => ?_)⟩
  clear hK K
  show wpAnyH _ _ _ _ _ _ _ (Act.put _ (some 114) _) _
  simp only [Act.put, List.setIfInBounds_toArray, List.set_cons_zero, List.set_cons_succ]
  refine wpAnyH_take (i := 54) (v := .bool true) rfl (by kernel_rfl) (by kernel_rfl) (by kernel_rfl) (fun _ _ _ h => h) (Or.inl ⟨by rfl, by intro w hSw; first | rfl | go_simp⟩) hHeld ?_
  show wpAnyH _ _ _ _ _ _ _ (Act.put _ (some 115) _) _
  simp only [Act.put, List.setIfInBounds_toArray, List.set_cons_zero, List.set_cons_succ]
  refine wpAnyH_take (i := 55) (v := .bool true) rfl (by kernel_rfl) (by kernel_rfl) (by kernel_rfl) (fun _ _ _ h => h) (Or.inl ⟨by rfl, fun w _ => by rfl⟩) hHeld ?_
  show wpAnyH _ _ _ _ _ _ _ (Act.put _ (some 116) _) _
  simp only [Act.put, List.setIfInBounds_toArray, List.set_cons_zero, List.set_cons_succ]
  refine wpAnyH_take (i := 56) (v := .pointer (some ⟨gs, 1, none⟩)) rfl (by kernel_rfl) (by kernel_rfl) (by kernel_rfl) (fun _ _ _ h => h) (Or.inl ⟨by rfl, by intro w' h; go_simp⟩) hHeld ?_
  show wpAnyH _ _ _ _ _ _ _ (Act.put _ (some 117) _) _
  simp only [Act.put, List.setIfInBounds_toArray, List.set_cons_zero, List.set_cons_succ]
  refine wpAnyH_take (i := 57) (v := .int .u64 s.rd) rfl (by kernel_rfl) (by kernel_rfl) (by kernel_rfl) (fun _ _ _ h => h) (Or.inl ⟨by rfl, by intro w' h; have q0 := Blk.cell h.1 0; have q1 := Blk.cell h.1 1; have q2 := Blk.cell h.1 2; have q3 := Blk.cell h.1 3; have q4 := Blk.cell h.1 4; have q5 := Blk.cell h.1 5; have q6 := Blk.cell h.1 6; simp only [List.getElem?_cons_zero, List.getElem?_cons_succ] at q0 q1 q2 q3 q4 q5 q6; go_simp⟩) hHeld ?_
  show wpAnyH _ _ _ _ _ _ _ (Act.put _ (some 118) _) _
  simp only [Act.put, List.setIfInBounds_toArray, List.set_cons_zero, List.set_cons_succ]
  refine wpAnyH_take (i := 59) (v := .pointer (some ⟨gs, 1, none⟩)) rfl (by kernel_rfl) (by kernel_rfl) (by kernel_rfl) (fun _ _ _ h => h) (Or.inl ⟨by rfl, by intro w' h; go_simp⟩) hHeld ?_
  show wpAnyH _ _ _ _ _ _ _ (Act.put _ (some 120) _) _
  simp only [Act.put, List.setIfInBounds_toArray, List.set_cons_zero, List.set_cons_succ]
  refine wpAnyH_take (i := 60) (v := .int .u64 s.rd) rfl (by kernel_rfl) (by kernel_rfl) (by kernel_rfl) (fun _ _ _ h => h) (Or.inl ⟨by rfl, by intro w' h; have q0 := Blk.cell h.1 0; have q1 := Blk.cell h.1 1; have q2 := Blk.cell h.1 2; have q3 := Blk.cell h.1 3; have q4 := Blk.cell h.1 4; have q5 := Blk.cell h.1 5; have q6 := Blk.cell h.1 6; simp only [List.getElem?_cons_zero, List.getElem?_cons_succ] at q0 q1 q2 q3 q4 q5 q6; go_simp⟩) hHeld ?_
  show wpAnyH _ _ _ _ _ _ _ (Act.put _ (some 121) _) _
  simp only [Act.put, List.setIfInBounds_toArray, List.set_cons_zero, List.set_cons_succ]
  refine wpAnyH_ready (rs := [58]) (by kernel_rfl) (by simp) ?_
  refine AllReadyH.cons rfl (fun K hK => ?_) AllReadyH.nil
  refine step_call rfl 22 #[.tmp 118] #[23] rfl #[.int .u64 s.rd] (by simp [Act.eval]) (by go_simp) (turn_any s.rd X10 HO.out.rd) ?_
  rintro e X11 ⟨rfl, rfl⟩
  refine ⟨_, rfl, hK.out _ _ (⟨SX10.out, TX10.out, PX10.out, XX10.out⟩) (fun hHeld => ?_)⟩
  clear hK K
  show wpAnyH _ _ _ _ _ _ _ (Act.put _ (some 119) _) _
  simp only [Act.put, List.setIfInBounds_toArray, List.set_cons_zero, List.set_cons_succ]
  refine wpAnyH_ready (rs := [61]) (by kernel_rfl) (by simp) ?_
  refine AllReadyH.cons rfl (fun K hK => ?_) AllReadyH.nil
  refine step_call rfl 23 #[.tmp 121] #[23] rfl #[.int .u64 s.rd] (by simp [Act.eval]) (by go_simp) (rturn_any s.rd X10 HO.out.rd) ?_
  rintro e X12 ⟨rfl, rfl⟩
  refine ⟨_, rfl, hK.out _ _ (⟨SX10.out, TX10.out, PX10.out, XX10.out⟩) (fun hHeld => ?_)⟩
  clear hK K
  show wpAnyH _ _ _ _ _ _ _ (Act.put _ (some 122) _) _
  simp only [Act.put, List.setIfInBounds_toArray, List.set_cons_zero, List.set_cons_succ]
  refine wpAnyH_take (i := 62) (v := .bool true) rfl (by kernel_rfl) (by kernel_rfl) (by kernel_rfl) (fun _ _ _ h => h) (Or.inl ⟨by rfl, by intro w' h; go_simp⟩) hHeld ?_
  show wpAnyH _ _ _ _ _ _ _ (Act.put _ (some 123) _) _
  simp only [Act.put, List.setIfInBounds_toArray, List.set_cons_zero, List.set_cons_succ]
  refine wpAnyH_take (i := 63) (v := .bool true) rfl (by kernel_rfl) (by kernel_rfl) (by kernel_rfl) (fun _ _ _ h => h) (Or.inl ⟨by rfl, by intro w hSw; first | rfl | go_simp⟩) hHeld ?_
  show wpAnyH _ _ _ _ _ _ _ (Act.put _ (some 124) _) _
  simp only [Act.put, List.setIfInBounds_toArray, List.set_cons_zero, List.set_cons_succ]
  refine wpAnyH_take (i := 64) (v := .bool true) rfl (by kernel_rfl) (by kernel_rfl) (by kernel_rfl) (fun _ _ _ h => h) (Or.inl ⟨by rfl, fun w _ => by rfl⟩) hHeld ?_
  show wpAnyH _ _ _ _ _ _ _ (Act.put _ (some 10) _) _
  simp only [Act.put, List.setIfInBounds_toArray, List.set_cons_zero, List.set_cons_succ]
  refine wpAnyH_done (by kernel_rfl) ?_ _
  go_wp2
  go_ret
  exact ⟨rfl, BX10.out⟩
set_option maxRecDepth 100000 in
theorem lifted (os : Os) (started : os.Started) (H : Type) (enc : TypeId × Value → H) :
    ReturnsInHanded {} Try.checked os 3 .any (Rows.pactTellsSpec.pre6 enc Try.prog Try.f3 Rows.pactTellsRow.domain false) (Rows.pactTellsSpec.post enc Try.prog Try.f3 false true false false) := by
  refine returnsInHanded_of_change (C := Try.checked) own started (by kernel_rfl) Try.func3
    (ChangeSpec.witness6 (enc := enc) (C := Try.checked) false ⟨#[], #[.agg #[.int .u32 0, .int .u64 0, .int .u64 0, .int .u64 0, .int .u64 0, .int .u64 0, .slice none 0 0], .agg #[.int .u32 0, .int .u64 0, .int .u64 0, .int .u64 0, .int .u64 0, .int .u64 0, .slice none 0 0], .agg #[.int .u64 0, .int .u64 0], .int .i64 0, .int .u64 0], []⟩ 8 (by kernel_rfl) (by kernel_rfl) (by kernel_rfl) (by kernel_rfl)) ?_
  intro W base args ds gs before hval0 hW hcnd _
  have hval : ∀ (j : Nat) t v, Try.f3.params[j]? = some t → args[j]? = some v → Value.okWide Try.prog W .any base t v := hval0
  have hW' := hW
  obtain ⟨p, q, hA0, hV, rfl, hfz, hnd⟩ := hW
  have hA : DataW.TrodAll enc Try.prog W 0 (fun _ => true) true Try.f3.params.toList args.toList ds p := hA0
  rw [Try.params3] at hA hval
  obtain ⟨v0, vs0, dd0, ds0, p0, q0, hargs, rfl, rfl, h0, r0⟩ := trodAll_cons hA
  obtain ⟨v1, vs1, dd1, ds1, p1, q1, rfl, rfl, rfl, h1, r1⟩ := trodAll_cons r0
  obtain ⟨v2, vs2, dd2, ds2, p2, q2, rfl, rfl, rfl, h2, r2⟩ := trodAll_cons r1
  obtain ⟨v3, vs3, dd3, ds3, p3, q3, rfl, rfl, rfl, h3, r3⟩ := trodAll_cons r2
  obtain ⟨v4, vs4, dd4, ds4, p4, q4, rfl, rfl, rfl, h4, r4⟩ := trodAll_cons r3
  obtain ⟨rfl, rfl, rfl⟩ := trodAll_nil r4
  obtain rfl : args = #[v0, v1, v2, v3, v4] := by cases args; simp_all
  obtain ⟨rfl, rfl⟩ := trodVars_none hV
  have kk0 := h0
  have lt0 : ∀ x ∈ p0, x.block < W.heap.size := by obtain ⟨m, hm⟩ := kk0; exact DataW.trod_lt m _ _ _ hm
  obtain ⟨s0, A0, n0, cap0, rfl, hC0, hl0, hO0, hm0⟩ := openState (hval 0 27 v0 rfl rfl) h0
  have kk1 := h1
  have lt1 : ∀ x ∈ p1, x.block < W.heap.size := by obtain ⟨m, hm⟩ := kk1; exact DataW.trod_lt m _ _ _ hm
  obtain ⟨s1, A1, n1, cap1, rfl, hC1, hl1, hO1, hm1⟩ := openState (hval 1 27 v1 rfl rfl) h1
  have kk2 := h2
  have lt2 : ∀ x ∈ p2, x.block < W.heap.size := by obtain ⟨m, hm⟩ := kk2; exact DataW.trod_lt m _ _ _ hm
  obtain ⟨x2, y2, rfl, hx2, hy2⟩ := openPut (hval 2 24 v2 rfl rfl) h2
  obtain ⟨a3, rfl, rfl, rfl, w3⟩ := open_int Try.underlying3 (hval 3 3 v3 rfl rfl) h3
  obtain ⟨a4, rfl, rfl, rfl, w4⟩ := open_int Try.underlying23 (hval 4 23 v4 rfl rfl) h4
  clear hA0 hval0
  refine Calls.mono (R := (fun e W1 => e = .returned (.bool true) ∧ Below W.heap.size W W1)) ?_ fun e W1 ⟨he, bel⟩ => ?_
  · skip
    exact walk s0 s1 A0 A1 n0 n1 cap0 cap1 x2 y2 a3 a4 W hC0 hl0 hO0 hC1 hl1 hx2 hy2
  subst he
  exact ⟨_, rfl, _, _, _, [], _, [], hW', trodAll_mk1 (shut_bool Try.underlying4 _), (trodAll_cons_mk (Below.trod laidOut (by kernel_rfl) (of_decide_eq_true (by kernel_rfl)) kk0 bel lt0) (trodAll_cons_mk (Below.trod laidOut (by kernel_rfl) (of_decide_eq_true (by kernel_rfl)) kk1 bel lt1) (trodAll_cons_mk (Below.trod laidOut (by kernel_rfl) (of_decide_eq_true (by kernel_rfl)) kk2 bel lt2) (trodAll_cons_mk (shut_int Try.underlying3 w3) (trodAll_cons_mk (shut_int Try.underlying23 w4) trodAll_mk0))))), rfl, bel.frame _, fun h => by cases h⟩

theorem proved : Rows.PactTellsSaid :=
  OpenClaim.holds_of_wide 3 Try.f3 rfl rfl rfl rfl rfl rfl rfl ⟨rfl, rfl, rfl, rfl, rfl⟩ rfl rfl rfl rfl rfl (by kernel_rfl) Try.func3 (by kernel_rfl)
    (of_decide_eq_true (by kernel_rfl)) (by unfold Func.isWrapper; first | (rw [if_pos (by decide +kernel)]; kernel_rfl) | (rw [if_neg (by decide +kernel)]; exact ⟨rfl, rfl⟩))
    (fun os started H enc _ => lifted os started H enc)
#print axioms proved
end Go.Proofs.Ytkiifjkcpangfaa.pactTells
