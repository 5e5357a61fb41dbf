/-
  What both have at last, nothing paid out.
-/
import Derived.Test.YtkiifjkcpangfaaPacZ
namespace Go.Proofs.Ytkiifjkcpangfaa
open Go.RowKit
set_option linter.unusedVariables false

theorem zero24 (W : World) : (Instr.build 24 #[]).run Try.prog W = .ok (.agg #[.int .u64 0, .int .u64 0]) W := by kernel_rfl

set_option maxRecDepth 100000 in
set_option maxHeartbeats 4000000 in
theorem split_any (s : St) (a ad : Option Addr) (n cap cd : Nat) (p0 p1 : Int) (ds : List Bool) (w : World) (hC : CRow w a s.cs) (hl : s.cs.length = n) (hn : n ≤ 500) (hO : s.Ok) (hp0 : Word p0) (hp1 : Word p1) (hD : BRow w ad ds) (hd : ds.length = n) (hs : soundE s p0 p1 = 0) :
    Calls Try.prog 30 #[.agg #[.int .u32 s.ch, .int .u64 s.rd, .int .u64 s.m0, .int .u64 s.m1, .int .u64 s.t0, .int .u64 s.t1, .slice a n cap], .agg #[.int .u64 p0, .int .u64 p1], .agg #[.int .u64 0, .int .u64 0], .slice ad n cd] w fun e w' => ∃ o0 o1 E : Int, e = .returned (.tuple #[.agg #[.int .u64 o0, .int .u64 o1], .int .i64 E]) ∧ Below w.heap.size w w' ∧ (sumE (partsF s p0 p1 0 ds) = 0 → sumE (partsF s p0 p1 1 ds) = 0 → o0 = sumV (partsF s p0 p1 0 ds) ∧ o1 = sumV (partsF s p0 p1 1 ds) ∧ E = 0) := by
  have HSP := Lib.hid (sound_parts hs)
  have HC := Lib.hid hC
  have HL := Lib.hid hl
  have HO := Lib.hid hO
  have HD := Lib.hid hD
  have HDL := Lib.hid hd
  have HS := Lib.hid hs
  have BA : Hid (Below w.heap.size w ((((w.alloc (.cells #[.int .u32 s.ch, .int .u64 s.rd, .int .u64 s.m0, .int .u64 s.m1, .int .u64 s.t0, .int .u64 s.t1, .slice a n cap] 31)).alloc (.cells #[.int .u64 p0, .int .u64 p1] 24)).alloc (.cells #[.int .u64 0, .int .u64 0] 24)).alloc (.cells #[.int .u64 0, .int .u64 0] 24))) := Lib.hid (((((Below.refl _ _).alloc (Nat.le_refl _) _).alloc (by simp) _).alloc (by simp; omega) _).alloc (by simp; omega) _)
  have SA : Hid (Blk ((((w.alloc (.cells #[.int .u32 s.ch, .int .u64 s.rd, .int .u64 s.m0, .int .u64 s.m1, .int .u64 s.t0, .int .u64 s.t1, .slice a n cap] 31)).alloc (.cells #[.int .u64 p0, .int .u64 p1] 24)).alloc (.cells #[.int .u64 0, .int .u64 0] 24)).alloc (.cells #[.int .u64 0, .int .u64 0] 24)) w.heap.size 31 [.int .u32 s.ch, .int .u64 s.rd, .int .u64 s.m0, .int .u64 s.m1, .int .u64 s.t0, .int .u64 s.t1, .slice a n cap]) := Lib.hid ((((Blk.mk_ rfl).alloc _).alloc _).alloc _)
  have PA : Hid (Blk ((((w.alloc (.cells #[.int .u32 s.ch, .int .u64 s.rd, .int .u64 s.m0, .int .u64 s.m1, .int .u64 s.t0, .int .u64 s.t1, .slice a n cap] 31)).alloc (.cells #[.int .u64 p0, .int .u64 p1] 24)).alloc (.cells #[.int .u64 0, .int .u64 0] 24)).alloc (.cells #[.int .u64 0, .int .u64 0] 24)) (w.heap.size + 1) 24 [.int .u64 p0, .int .u64 p1]) := Lib.hid (((Blk.mk_ (by simp)).alloc _).alloc _)
  have QA : Hid (Blk ((((w.alloc (.cells #[.int .u32 s.ch, .int .u64 s.rd, .int .u64 s.m0, .int .u64 s.m1, .int .u64 s.t0, .int .u64 s.t1, .slice a n cap] 31)).alloc (.cells #[.int .u64 p0, .int .u64 p1] 24)).alloc (.cells #[.int .u64 0, .int .u64 0] 24)).alloc (.cells #[.int .u64 0, .int .u64 0] 24)) (w.heap.size + 1 + 1) 24 [.int .u64 0, .int .u64 0]) := Lib.hid ((Blk.mk_ (by simp)).alloc _)
  have RA : Hid (Blk ((((w.alloc (.cells #[.int .u32 s.ch, .int .u64 s.rd, .int .u64 s.m0, .int .u64 s.m1, .int .u64 s.t0, .int .u64 s.t1, .slice a n cap] 31)).alloc (.cells #[.int .u64 p0, .int .u64 p1] 24)).alloc (.cells #[.int .u64 0, .int .u64 0] 24)).alloc (.cells #[.int .u64 0, .int .u64 0] 24)) (w.heap.size + 1 + 1 + 1) 24 [.int .u64 0, .int .u64 0]) := Lib.hid (Blk.mk_ (by simp))
  clear hC hl hO hD hd hs
  go_enter Try.func30, Try.ntmps30
  go_upto_region 1 with fail
  generalize ((((w.alloc (.cells #[.int .u32 s.ch, .int .u64 s.rd, .int .u64 s.m0, .int .u64 s.m1, .int .u64 s.t0, .int .u64 s.t1, .slice a n cap] 31)).alloc (.cells #[.int .u64 p0, .int .u64 p1] 24)).alloc (.cells #[.int .u64 0, .int .u64 0] 24)).alloc (.cells #[.int .u64 0, .int .u64 0] 24)) = A at BA SA PA QA RA ⊢
  obtain ⟨gr, hgr⟩ : ∃ q, w.heap.size + 1 + 1 + 1 = q := ⟨_, rfl⟩
  obtain ⟨gq, hgq⟩ : ∃ q, w.heap.size + 1 + 1 = q := ⟨_, rfl⟩
  obtain ⟨gp, hgp⟩ : ∃ q, w.heap.size + 1 = q := ⟨_, rfl⟩
  obtain ⟨gs, hgs⟩ : ∃ q, w.heap.size = q := ⟨_, rfl⟩
  have HGR : Hid (w.heap.size ≤ gr) := Lib.hid (by omega)
  rw [hgr] at RA ⊢
  rw [hgq] at QA ⊢
  rw [hgp] at PA ⊢
  rw [hgs] at SA ⊢
  clear hgr hgq hgp hgs
  have s0 := SA.out.cell 0
  have s1 := SA.out.cell 1
  have s2 := SA.out.cell 2
  have s3 := SA.out.cell 3
  have s4 := SA.out.cell 4
  have s5 := SA.out.cell 5
  have s6 := SA.out.cell 6
  simp only [List.getElem?_cons_zero, List.getElem?_cons_succ] at s0 s1 s2 s3 s4 s5 s6
  have q0 := PA.out.cell 0
  have q1 := PA.out.cell 1
  simp only [List.getElem?_cons_zero, List.getElem?_cons_succ] at q0 q1
  go_wp2_with fail
  clear s0 s1 s2 s3 s4 s5 s6 q0 q1
  refine ((show Calls Try.prog 15 #[.agg #[.int .u32 s.ch, .int .u64 s.rd, .int .u64 s.m0, .int .u64 s.m1, .int .u64 s.t0, .int .u64 s.t1, .slice a n cap], .agg #[.int .u64 p0, .int .u64 p1]] A (fun e w2 => e = .returned (.int .i64 (soundE s p0 p1)) ∧ Below A.heap.size A w2) from sound_any s.ch s.rd s.m0 s.m1 s.t0 s.t1 a n cap s.cs p0 p1 A (HC.out.below BA.out) HL.out (by omega) hp0 hp1 HO.out.eta)).mono ?_
  rw [HS.out]
  rintro e B ⟨rfl, hB⟩
  have BB := Lib.hid (BA.out.trans (hB.mono BA.out.size))
  have SB := Lib.hid (SA.out.below hB SA.out.lt)
  have PB := Lib.hid (PA.out.below hB PA.out.lt)
  have QB := Lib.hid (QA.out.below hB QA.out.lt)
  have RB := Lib.hid (RA.out.below hB RA.out.lt)
  clear hB BA SA PA QA RA
  have s0 := SB.out.cell 0
  have s1 := SB.out.cell 1
  have s2 := SB.out.cell 2
  have s3 := SB.out.cell 3
  have s4 := SB.out.cell 4
  have s5 := SB.out.cell 5
  have s6 := SB.out.cell 6
  simp only [List.getElem?_cons_zero, List.getElem?_cons_succ] at s0 s1 s2 s3 s4 s5 s6
  have bn : ((n : Int) != (n : Int)) = false := by simp
  go_wp2
  clear s0 s1 s2 s3 s4 s5 s6 bn
  have hB : Below B.heap.size B (B.alloc (.cells #[.int .u64 0, .int .u64 0] 24)) := (Below.refl _ _).alloc (Nat.le_refl _) _
  have LC : Hid (Blk (B.alloc (.cells #[.int .u64 0, .int .u64 0] 24)) B.heap.size 24 [.int .u64 0, .int .u64 0]) := Lib.hid (Blk.new B 24 [.int .u64 0, .int .u64 0])
  have HGL : Hid (w.heap.size ≤ B.heap.size ∧ gs < B.heap.size ∧ gp < B.heap.size ∧ gq < B.heap.size ∧ gr < B.heap.size) := Lib.hid ⟨BB.out.size, SB.out.lt, PB.out.lt, QB.out.lt, RB.out.lt⟩
  have BC := Lib.hid (BB.out.trans (hB.mono BB.out.size))
  have SC := Lib.hid (SB.out.below hB SB.out.lt)
  have PC := Lib.hid (PB.out.below hB PB.out.lt)
  have QC := Lib.hid (QB.out.below hB QB.out.lt)
  have RC := Lib.hid (RB.out.below hB RB.out.lt)
  clear hB BB SB PB QB RB
  generalize (B.alloc (.cells #[.int .u64 0, .int .u64 0] 24)) = C at BC SC PC QC RC LC ⊢
  generalize B.heap.size = gl at LC HGL ⊢
  refine wp_loop_rounds 4 ?_
  rw [rounds_succ]
  have s0 := SC.out.cell 0
  have s1 := SC.out.cell 1
  have s2 := SC.out.cell 2
  have s3 := SC.out.cell 3
  have s4 := SC.out.cell 4
  have s5 := SC.out.cell 5
  have s6 := SC.out.cell 6
  simp only [List.getElem?_cons_zero, List.getElem?_cons_succ] at s0 s1 s2 s3 s4 s5 s6
  have q0 := PC.out.cell 0
  have q1 := PC.out.cell 1
  simp only [List.getElem?_cons_zero, List.getElem?_cons_succ] at q0 q1
  have u0 := QC.out.cell 0
  have u1 := QC.out.cell 1
  simp only [List.getElem?_cons_zero, List.getElem?_cons_succ] at u0 u1
  go_wp2_with fail
  clear s0 s1 s2 s3 s4 s5 s6 q0 q1 u0 u1
  refine (share_0 s a ad n cap cd p0 p1 ds C (HC.out.below BC.out) HL.out hn HO.out hp0 hp1 (HD.out.below BC.out) HDL.out HSP.out.2.2.2.1).mono ?_
  rintro e D ⟨rfl, hB⟩
  have BD := Lib.hid (BC.out.trans (hB.mono BC.out.size))
  have SD := Lib.hid (SC.out.below hB SC.out.lt)
  have PD := Lib.hid (PC.out.below hB PC.out.lt)
  have QD := Lib.hid (QC.out.below hB QC.out.lt)
  have RD := Lib.hid (RC.out.below hB RC.out.lt)
  have LD := Lib.hid (LC.out.below hB LC.out.lt)
  clear hB BC SC PC QC RC LC
  obtain ⟨v0, hv0⟩ : ∃ x, sumV (partsF s p0 p1 0 ds) = x := ⟨_, rfl⟩
  obtain ⟨e0, he0⟩ : ∃ x, sumE (partsF s p0 p1 0 ds) = x := ⟨_, rfl⟩
  rw [hv0, he0]
  have HV0 := Lib.hid hv0
  have HE0 := Lib.hid he0
  clear hv0 he0
  by_cases h0 : e0 = 0
  case neg =>
    have b0 : (e0 != 0) = true := by simpa using h0
    have HNZ := Lib.hid h0
    clear h0
    have z24 := zero24
    have r0 := RD.out.cell 0
    have r1 := RD.out.cell 1
    simp only [List.getElem?_cons_zero, List.getElem?_cons_succ] at r0 r1
    have f0 := RD.out.frozen 0
    have f1 := RD.out.frozen 1
    go_wp2
    have hRR : Blk ((D.setCell ⟨gr, 0, none⟩ (.int .u64 0)).setCell ⟨gr, 1, none⟩ (.int .u64 0)) gr 24 [.int .u64 0, .int .u64 0] := ((RD.out.set_ 0 _).set_ 1 _)
    exact bodyPost_ret (results_ct Try.results30 _ _ gr 24 [.int .u64 0, .int .u64 0] _ rfl hRR Try.underlying24 rfl info24) rfl ⟨0, 0, e0, rfl, (BD.out.setCell (p := ⟨gr, 0, none⟩) HGR.out _).setCell (p := ⟨gr, 1, none⟩) HGR.out _, fun h0 _ => absurd (HE0.out.symm.trans h0) HNZ.out⟩
  have b0 : (e0 != 0) = false := by simpa using h0
  subst h0
  have l0 := LD.out.cell 0
  have l1 := LD.out.cell 1
  simp only [List.getElem?_cons_zero, List.getElem?_cons_succ] at l0 l1
  have f0 := LD.out.frozen 0
  have f1 := LD.out.frozen 1
  go_wp2
  clear l0 l1 f0 f1
  have hO : D.grownBy (D.setCell ⟨gl, 0, none⟩ (.int .u64 v0)) (some gl) := only_setCell (p := ⟨gl, 0, none⟩) (only_refl _ _) (.inl rfl) _
  have hg := HGL.out
  have BE : Hid (Below w.heap.size w (D.setCell ⟨gl, 0, none⟩ (.int .u64 v0))) := Lib.hid (BD.out.grown hO BD.out.size (fun q hq => by injection hq with hq; omega))
  have SE := Lib.hid (SD.out.grown hO (fun e => by injection e with e; omega))
  have PE := Lib.hid (PD.out.grown hO (fun e => by injection e with e; omega))
  have QE := Lib.hid (QD.out.grown hO (fun e => by injection e with e; omega))
  have RE := Lib.hid (RD.out.grown hO (fun e => by injection e with e; omega))
  have LE : Hid (Blk (D.setCell ⟨gl, 0, none⟩ (.int .u64 v0)) gl 24 [.int .u64 v0, .int .u64 0]) := Lib.hid (LD.out.set_ 0 _)
  clear hO hg BD SD PD QD RD LD
  generalize (D.setCell ⟨gl, 0, none⟩ (.int .u64 v0)) = E at BE SE PE QE RE LE ⊢
  rw [rounds_succ]
  have s0 := SE.out.cell 0
  have s1 := SE.out.cell 1
  have s2 := SE.out.cell 2
  have s3 := SE.out.cell 3
  have s4 := SE.out.cell 4
  have s5 := SE.out.cell 5
  have s6 := SE.out.cell 6
  simp only [List.getElem?_cons_zero, List.getElem?_cons_succ] at s0 s1 s2 s3 s4 s5 s6
  have q0 := PE.out.cell 0
  have q1 := PE.out.cell 1
  simp only [List.getElem?_cons_zero, List.getElem?_cons_succ] at q0 q1
  have u0 := QE.out.cell 0
  have u1 := QE.out.cell 1
  simp only [List.getElem?_cons_zero, List.getElem?_cons_succ] at u0 u1
  go_wp2_with fail
  clear s0 s1 s2 s3 s4 s5 s6 q0 q1 u0 u1
  refine (share_1 s a ad n cap cd p0 p1 ds E (HC.out.below BE.out) HL.out hn HO.out hp0 hp1 (HD.out.below BE.out) HDL.out HSP.out.2.2.2.2).mono ?_
  rintro e F ⟨rfl, hB⟩
  have BF := Lib.hid (BE.out.trans (hB.mono BE.out.size))
  have SF := Lib.hid (SE.out.below hB SE.out.lt)
  have PF := Lib.hid (PE.out.below hB PE.out.lt)
  have QF := Lib.hid (QE.out.below hB QE.out.lt)
  have RF := Lib.hid (RE.out.below hB RE.out.lt)
  have LF := Lib.hid (LE.out.below hB LE.out.lt)
  clear hB BE SE PE QE RE LE
  obtain ⟨v1, hv1⟩ : ∃ x, sumV (partsF s p0 p1 1 ds) = x := ⟨_, rfl⟩
  obtain ⟨e1, he1⟩ : ∃ x, sumE (partsF s p0 p1 1 ds) = x := ⟨_, rfl⟩
  rw [hv1, he1]
  have HV1 := Lib.hid hv1
  have HE1 := Lib.hid he1
  clear hv1 he1
  by_cases h1 : e1 = 0
  case neg =>
    have b1 : (e1 != 0) = true := by simpa using h1
    have HNZ := Lib.hid h1
    clear h1
    have z24 := zero24
    have r0 := RF.out.cell 0
    have r1 := RF.out.cell 1
    simp only [List.getElem?_cons_zero, List.getElem?_cons_succ] at r0 r1
    have f0 := RF.out.frozen 0
    have f1 := RF.out.frozen 1
    go_wp2
    have hRR : Blk ((F.setCell ⟨gr, 0, none⟩ (.int .u64 0)).setCell ⟨gr, 1, none⟩ (.int .u64 0)) gr 24 [.int .u64 0, .int .u64 0] := ((RF.out.set_ 0 _).set_ 1 _)
    exact bodyPost_ret (results_ct Try.results30 _ _ gr 24 [.int .u64 0, .int .u64 0] _ rfl hRR Try.underlying24 rfl info24) rfl ⟨0, 0, e1, rfl, (BF.out.setCell (p := ⟨gr, 0, none⟩) HGR.out _).setCell (p := ⟨gr, 1, none⟩) HGR.out _, fun _ h1 => absurd (HE1.out.symm.trans h1) HNZ.out⟩
  have b1 : (e1 != 0) = false := by simpa using h1
  subst h1
  have l0 := LF.out.cell 0
  have l1 := LF.out.cell 1
  simp only [List.getElem?_cons_zero, List.getElem?_cons_succ] at l0 l1
  have f0 := LF.out.frozen 0
  have f1 := LF.out.frozen 1
  go_wp2
  clear l0 l1 f0 f1
  have hO : F.grownBy (F.setCell ⟨gl, 1, none⟩ (.int .u64 v1)) (some gl) := only_setCell (p := ⟨gl, 1, none⟩) (only_refl _ _) (.inl rfl) _
  have hg := HGL.out
  have BG : Hid (Below w.heap.size w (F.setCell ⟨gl, 1, none⟩ (.int .u64 v1))) := Lib.hid (BF.out.grown hO BF.out.size (fun q hq => by injection hq with hq; omega))
  have SG := Lib.hid (SF.out.grown hO (fun e => by injection e with e; omega))
  have PG := Lib.hid (PF.out.grown hO (fun e => by injection e with e; omega))
  have QG := Lib.hid (QF.out.grown hO (fun e => by injection e with e; omega))
  have RG := Lib.hid (RF.out.grown hO (fun e => by injection e with e; omega))
  have LG : Hid (Blk (F.setCell ⟨gl, 1, none⟩ (.int .u64 v1)) gl 24 [.int .u64 v0, .int .u64 v1]) := Lib.hid (LF.out.set_ 1 _)
  clear hO hg BF SF PF QF RF LF
  generalize (F.setCell ⟨gl, 1, none⟩ (.int .u64 v1)) = G at BG SG PG QG RG LG ⊢
  rw [rounds_succ]
  have r0 := RG.out.cell 0
  have r1 := RG.out.cell 1
  simp only [List.getElem?_cons_zero, List.getElem?_cons_succ] at r0 r1
  have l0 := LG.out.cell 0
  have l1 := LG.out.cell 1
  simp only [List.getElem?_cons_zero, List.getElem?_cons_succ] at l0 l1
  have f0 := RG.out.frozen 0
  have f1 := RG.out.frozen 1
  go_wp2
  have hRR : Blk ((G.setCell ⟨gr, 0, none⟩ (.int .u64 v0)).setCell ⟨gr, 1, none⟩ (.int .u64 v1)) gr 24 [.int .u64 v0, .int .u64 v1] := ((RG.out.set_ 0 _).set_ 1 _)
  exact bodyPost_ret (results_ct Try.results30 _ _ gr 24 [.int .u64 v0, .int .u64 v1] _ rfl hRR Try.underlying24 rfl info24) rfl ⟨v0, v1, 0, rfl, (BG.out.setCell (p := ⟨gr, 0, none⟩) HGR.out _).setCell (p := ⟨gr, 1, none⟩) HGR.out _, fun _ _ => ⟨HV0.out.symm, HV1.out.symm, rfl⟩⟩
end Go.Proofs.Ytkiifjkcpangfaa
