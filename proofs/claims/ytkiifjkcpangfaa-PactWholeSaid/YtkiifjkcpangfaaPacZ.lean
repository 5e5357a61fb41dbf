/-
  The share of a side, and what both have at last: nothing paid out.
-/
import Derived.Test.YtkiifjkcpangfaaPacY
namespace Go.Proofs.Ytkiifjkcpangfaa
open Go.RowKit
set_option linter.unusedVariables false

set_option maxRecDepth 100000 in
set_option maxHeartbeats 4000000 in
theorem share_0 (s : St) (a ad : Option Addr) (n cap cd : Nat) (p0 p1 : Int) (ds : List Bool) (w : World) (hC : CRow w a s.cs) (hl : s.cs.length = n) (hn : n ≤ 500) (hO : s.Ok) (hp0 : Word p0) (hp1 : Word p1) (hD : BRow w ad ds) (hd : ds.length = n) (hf : (freeF s p0 p1 0).2 = 0) :
    Calls Try.prog 45 #[.agg #[.int .u32 s.ch, .int .u64 s.rd, .int .u64 s.m0, .int .u64 s.m1, .int .u64 s.t0, .int .u64 s.t1, .slice a n cap], .agg #[.int .u64 p0, .int .u64 p1], .agg #[.int .u64 0, .int .u64 0], .int .i64 0, .slice ad n cd] w fun e w' => e = .returned (.tuple #[.int .u64 (sumV (partsF s p0 p1 0 ds)), .int .i64 (sumE (partsF s p0 p1 0 ds))]) ∧ Below w.heap.size w w' := by
  have HPW := Lib.hid (parts_word hO hC.ok hp0 hp1 0 ds)
  have HC := Lib.hid hC
  have HL := Lib.hid hl
  have HO := Lib.hid hO
  have HD := Lib.hid hD
  have HDL := Lib.hid hd
  have HF := Lib.hid hf
  have BA : Hid (Below w.heap.size w (((w.alloc (.cells #[.int .u32 s.ch, .int .u64 s.rd, .int .u64 s.m0, .int .u64 s.m1, .int .u64 s.t0, .int .u64 s.t1, .slice a n cap] 31)).alloc (.cells #[.int .u64 p0, .int .u64 p1] 24)).alloc (.cells #[.int .u64 0, .int .u64 0] 24))) := Lib.hid ((((Below.refl _ _).alloc (Nat.le_refl _) _).alloc (by simp) _).alloc (by simp; omega) _)
  have SA : Hid (Blk (((w.alloc (.cells #[.int .u32 s.ch, .int .u64 s.rd, .int .u64 s.m0, .int .u64 s.m1, .int .u64 s.t0, .int .u64 s.t1, .slice a n cap] 31)).alloc (.cells #[.int .u64 p0, .int .u64 p1] 24)).alloc (.cells #[.int .u64 0, .int .u64 0] 24)) w.heap.size 31 [.int .u32 s.ch, .int .u64 s.rd, .int .u64 s.m0, .int .u64 s.m1, .int .u64 s.t0, .int .u64 s.t1, .slice a n cap]) := Lib.hid (((Blk.mk_ rfl).alloc _).alloc _)
  have PA : Hid (Blk (((w.alloc (.cells #[.int .u32 s.ch, .int .u64 s.rd, .int .u64 s.m0, .int .u64 s.m1, .int .u64 s.t0, .int .u64 s.t1, .slice a n cap] 31)).alloc (.cells #[.int .u64 p0, .int .u64 p1] 24)).alloc (.cells #[.int .u64 0, .int .u64 0] 24)) (w.heap.size + 1) 24 [.int .u64 p0, .int .u64 p1]) := Lib.hid ((Blk.mk_ (by simp)).alloc _)
  have QA : Hid (Blk (((w.alloc (.cells #[.int .u32 s.ch, .int .u64 s.rd, .int .u64 s.m0, .int .u64 s.m1, .int .u64 s.t0, .int .u64 s.t1, .slice a n cap] 31)).alloc (.cells #[.int .u64 p0, .int .u64 p1] 24)).alloc (.cells #[.int .u64 0, .int .u64 0] 24)) (w.heap.size + 1 + 1) 24 [.int .u64 0, .int .u64 0]) := Lib.hid (Blk.mk_ (by simp))
  clear hC hl hO hD hd hf
  go_enter Try.func45, Try.ntmps45
  go_upto_region 1 with fail
  generalize (((w.alloc (.cells #[.int .u32 s.ch, .int .u64 s.rd, .int .u64 s.m0, .int .u64 s.m1, .int .u64 s.t0, .int .u64 s.t1, .slice a n cap] 31)).alloc (.cells #[.int .u64 p0, .int .u64 p1] 24)).alloc (.cells #[.int .u64 0, .int .u64 0] 24)) = A at BA SA PA QA ⊢
  obtain ⟨gq, hgq⟩ : ∃ q, w.heap.size + 1 + 1 = q := ⟨_, rfl⟩
  obtain ⟨gp, hgp⟩ : ∃ q, w.heap.size + 1 = q := ⟨_, rfl⟩
  obtain ⟨gs, hgs⟩ : ∃ q, w.heap.size = q := ⟨_, rfl⟩
  rw [hgq] at QA ⊢
  rw [hgp] at PA ⊢
  rw [hgs] at SA ⊢
  clear hgq hgp
  have HGS := Lib.hid hgs
  clear hgs
  have s0 := SA.out.cell 0
  have s1 := SA.out.cell 1
  have s2 := SA.out.cell 2
  have s3 := SA.out.cell 3
  have s4 := SA.out.cell 4
  have s5 := SA.out.cell 5
  have s6 := SA.out.cell 6
  simp only [List.getElem?_cons_zero, List.getElem?_cons_succ] at s0 s1 s2 s3 s4 s5 s6
  have q0 := PA.out.cell 0
  have q1 := PA.out.cell 1
  simp only [List.getElem?_cons_zero, List.getElem?_cons_succ] at q0 q1
  go_wp2_with fail
  clear s0 s1 s2 s3 s4 s5 s6 q0 q1 PA
  refine ((show Calls Try.prog 13 #[.agg #[.int .u32 s.ch, .int .u64 s.rd, .int .u64 s.m0, .int .u64 s.m1, .int .u64 s.t0, .int .u64 s.t1, .slice a n cap], .agg #[.int .u64 p0, .int .u64 p1], .int .i64 0] A (fun e w2 => e = .returned (.tuple #[.int .u64 (freeF s p0 p1 0).1, .int .i64 (freeF s p0 p1 0).2]) ∧ Below A.heap.size A w2) from free_any s.ch s.rd s.m0 s.m1 s.t0 s.t1 a n cap s.cs p0 p1 0 A (HC.out.below BA.out) HL.out (by omega) hp0 hp1 HO.out.eta)).mono ?_
  rw [HF.out]
  rintro e B ⟨rfl, hB⟩
  have BB : Hid (Below w.heap.size w B) := Lib.hid (BA.out.trans (hB.mono BA.out.size))
  have SB := Lib.hid (SA.out.below hB SA.out.lt)
  have QB := Lib.hid (QA.out.below hB QA.out.lt)
  clear hB BA SA QA HF
  have HPF : Hid (partsF s p0 p1 0 ds = [(freeF s p0 p1 0).1, s.t0] ++ shareL 0 (s.cs.zip ds)) := Lib.hid rfl
  obtain ⟨fv, hfv⟩ : ∃ x, (freeF s p0 p1 0).1 = x := ⟨_, rfl⟩
  rw [hfv]
  rw [hfv] at HPF
  clear hfv
  have HSB : Hid (∀ W, Calls Try.prog 36 #[.int .u64 s.t0, .int .u64 0] W fun e w2 => e = .returned (.tuple #[.int .u64 s.t0, .int .i64 0]) ∧ W = w2) := Lib.hid (fun W => by have h := sub_ok s.t0 0 W HO.out.t0 w0_ (by have := HO.out.t0.1; omega); rwa [Int.sub_zero] at h)
  have s0 := SB.out.cell 0
  have s1 := SB.out.cell 1
  have s2 := SB.out.cell 2
  have s3 := SB.out.cell 3
  have s4 := SB.out.cell 4
  have s5 := SB.out.cell 5
  have s6 := SB.out.cell 6
  simp only [List.getElem?_cons_zero, List.getElem?_cons_succ] at s0 s1 s2 s3 s4 s5 s6
  have q0 := QB.out.cell 0
  have q1 := QB.out.cell 1
  simp only [List.getElem?_cons_zero, List.getElem?_cons_succ] at q0 q1
  go_upto_region 4 with fail
  go_quiet (first | (go_at_call 36; exact quiet_w (HSB.out _)))
  go_upto_region 7 with fail
  clear HSB q0 q1 QB
  have hBd : Below B.heap.size B (B.drewN nq) := below_drewN (Below.refl _ _) _
  have BC := Lib.hid (BB.out.trans (hBd.mono BB.out.size))
  have SC := Lib.hid (SB.out.below hBd SB.out.lt)
  clear hBd BB SB s0 s1 s2 s3 s4 s5 s6
  generalize (B.drewN nq) = C at BC SC ⊢
  go_upto_region 8 with fail
  have hB : Below C.heap.size C (C.alloc (.cells #[.int .u64 fv, .int .u64 s.t0] 23)) := (Below.refl _ _).alloc (Nat.le_refl _) _
  have BD := Lib.hid (BC.out.trans (hB.mono BC.out.size))
  have SD := Lib.hid (SC.out.below hB SC.out.lt)
  have OD : Hid ((C.alloc (.cells #[.int .u64 fv, .int .u64 s.t0] 23)).ownsRow w.heap.size 23 1 (.slice (some ⟨C.heap.size, 0, none⟩) 2 2) 2 (us ([fv, s.t0] ++ shareL 0 ((s.cs.zip ds).take 0)))) := Lib.hid (own_fresh (Blk.new C 23 (us [fv, s.t0])) BC.out.size rfl (by decide))
  clear hB BC SC
  generalize (C.alloc (.cells #[.int .u64 fv, .int .u64 s.t0] 23)) = D at BD SD OD ⊢
  generalize C.heap.size = gn at OD ⊢
  have s0 := SD.out.cell 0
  have s1 := SD.out.cell 1
  have s2 := SD.out.cell 2
  have s3 := SD.out.cell 3
  have s4 := SD.out.cell 4
  have s5 := SD.out.cell 5
  have s6 := SD.out.cell 6
  simp only [List.getElem?_cons_zero, List.getElem?_cons_succ] at s0 s1 s2 s3 s4 s5 s6
  go_wp2
  clear s0 s1 s2 s3 s4 s5 s6
  have HZL : Hid ((s.cs.zip ds).length = n) := Lib.hid (by rw [List.length_zip, HL.out, HDL.out]; omega)
  go_loopw [15, 16, 17, 48] (fun l _ _ j wr => ∃ (k m : Nat) (v : Value), k ≤ n ∧ j = .int .i64 k ∧ v = l ∧ Hid (m = 2 + (shareL 0 ((s.cs.zip ds).take k)).length) ∧ Hid (wr.ownsRow w.heap.size 23 1 v m (us ([fv, s.t0] ++ shareL 0 ((s.cs.zip ds).take k)))) ∧ Hid (Blk wr gs 31 [.int .u32 s.ch, .int .u64 s.rd, .int .u64 s.m0, .int .u64 s.m1, .int .u64 s.t0, .int .u64 s.t1, .slice a n cap]) ∧ Hid (Below w.heap.size w wr)) (fun _ _ _ j _ => n - (intOf j).toNat)
  case atStart => exact ⟨0, 2, _, Nat.zero_le _, rfl, rfl, Lib.hid rfl, OD, SD, BD⟩
  case round =>
    clear OD SD BD
    obtain ⟨k, m, v, hk, rfl, rfl, hm, O0, S0, B0⟩ := hrel
    obtain ⟨av, cv, rfl⟩ := own_slice O0.out
    by_cases hlt : k < n
    · have hk' : k < s.cs.length := by rw [HL.out]; exact hlt
      have hkd : k < ds.length := by rw [HDL.out]; exact hlt
      obtain ⟨b, o, c, rfl, hb, hc, hr, hok⟩ := HC.out.get hk'
      obtain ⟨bd, od, rfl, hbd, hcd⟩ := HD.out.get hkd
      have RG := range_below hr B0.out hb
      have RD := (B0.out.cell (p := ⟨bd, od + k, none⟩) hbd).trans hcd
      have hzk : k < (s.cs.zip ds).length := by rw [HZL.out]; exact hlt
      have hz : (s.cs.zip ds)[k] = (c, ds.getD k false) := by rw [List.getElem_zip, ← hc]; simp [List.getD, hk', hkd]
      obtain ⟨d, hdd⟩ : ∃ d, ds.getD k false = d := ⟨_, rfl⟩
      rw [hdd] at RD hz
      have HSN := Lib.hid (shareL_snoc 0 (s.cs.zip ds) k c d hzk hz)
      have HOK := Lib.hid hok
      have HBD : Hid (bd < wr.heap.size) := Lib.hid (Nat.lt_of_lt_of_le hbd B0.out.size)
      have hml : m ≤ 502 := by have := hm.out; have := shareL_len 0 ((s.cs.zip ds).take k); rw [List.length_take] at this; omega
      clear hc hr hb hk' hkd hbd hcd hzk hz hdd
      have hz1 : (Try.prog.info? 60).map (·.size) = some c.cells.toArray.size := by rw [hok.size]; exact info60
      have hz2 : (Try.prog.info? 60).map (·.size) = some c.cells.length := by rw [hok.len]; exact info60
      have hz3 : (#[.int .u64 0, .int .i64 0, .int .u64 0, .int .u8 0, .int .u8 0, .int .u8 0, .int .u8 0, .int .u8 0, .int .u8 0, .int .u8 0, .int .u8 0, .int .u8 0, .int .u8 0, .int .u8 0, .int .u8 0, .int .u8 0, .int .u8 0, .int .u8 0, .int .u8 0, .int .u8 0, .int .u8 0, .int .u8 0, .int .u8 0, .int .u8 0, .int .u8 0, .int .u8 0, .int .u8 0, .int .u8 0, .int .u8 0, .int .u8 0, .int .u8 0, .int .u8 0, .int .u8 0, .int .u8 0, .int .u8 0, .int .u64 0] : Array Value).size = c.cells.toArray.size := by rw [hok.size]; rfl
      have hco := c.all_one
      have HLA := heap_alloc_last wr (.cells #[.int .u64 0, .int .i64 0, .int .u64 0, .int .u8 0, .int .u8 0, .int .u8 0, .int .u8 0, .int .u8 0, .int .u8 0, .int .u8 0, .int .u8 0, .int .u8 0, .int .u8 0, .int .u8 0, .int .u8 0, .int .u8 0, .int .u8 0, .int .u8 0, .int .u8 0, .int .u8 0, .int .u8 0, .int .u8 0, .int .u8 0, .int .u8 0, .int .u8 0, .int .u8 0, .int .u8 0, .int .u8 0, .int .u8 0, .int .u8 0, .int .u8 0, .int .u8 0, .int .u8 0, .int .u8 0, .int .u8 0, .int .u64 0] 60)
      go_upto_region 11 with (first | (refine wpList_load_mid rfl 60 (.tmp 51) rfl b (o + k * 36) rfl c.cells _ RG Try.underlying60 rfl hz2 ?_) | (refine wpList_store_row rfl 60 (.tmp 17) (.tmp 52) rfl wr.heap.size c.cells.toArray rfl rfl 60 _ HLA hz1 hz3 hco ?_; rw [World.setRow_alloc_new]) | fail)
      have hD := Blk.new wr 60 c.cells
      clear hz1 hz2 hz3 hco HLA
      have hB : Below wr.heap.size wr (wr.alloc (.cells c.cells.toArray 60)) := (Below.refl _ _).alloc (Nat.le_refl _) _
      have BE := Lib.hid (B0.out.trans (hB.mono B0.out.size))
      have SE := Lib.hid (S0.out.below hB S0.out.lt)
      have OE := Lib.hid (own_keep O0.out hB)
      have CE : Hid (Blk (wr.alloc (.cells c.cells.toArray 60)) wr.heap.size 60 c.cells) := Lib.hid hD
      have RE : Hid ((wr.alloc (.cells c.cells.toArray 60)).cell? ⟨bd, od + k, none⟩ = some (.bool d)) := Lib.hid ((hB.cell (p := ⟨bd, od + k, none⟩) HBD.out).trans RD)
      clear hB hD B0 S0 O0 RG RD hok HBD
      generalize (wr.alloc (.cells c.cells.toArray 60)) = E at BE SE OE CE RE ⊢
      generalize wr.heap.size = gc at CE ⊢
      have r := RE.out
      have k1 := CE.out.cell 1
      have k2 := CE.out.cell 2
      rw [c.c1] at k1
      rw [c.c2] at k2
      obtain ⟨sb, hsb⟩ : ∃ x, (c.side == 0) = x := ⟨_, rfl⟩
      rw [hsb] at HSN
      obtain ⟨nb, hnb⟩ : ∃ x, (!(sb == d)) = x := ⟨_, rfl⟩
      have hne : (sb != d) = nb := hnb
      rw [hne] at HSN
      clear hne
      skip
      cases nb
      case false =>
        have HSN2 : Hid (shareL 0 ((s.cs.zip ds).take (k + 1)) = shareL 0 ((s.cs.zip ds).take k)) := Lib.hid (by rw [HSN.out]; simp)
        clear HSN
        go_quiet (fail)
        go_wp2
        go_roundw
        case rel => exact ⟨k + 1, m, _, by omega, by go_num, rfl, Lib.hid (by rw [HSN2.out]; exact hm.out), Lib.hid (by rw [HSN2.out]; exact own_keep OE.out (below_drewN (Below.refl _ _) _)), Lib.hid (SE.out.drewN _), Lib.hid (below_drewN BE.out _)⟩
        case measure => simp [intOf] <;> omega
      have HSN2 : Hid (shareL 0 ((s.cs.zip ds).take (k + 1)) = shareL 0 ((s.cs.zip ds).take k) ++ [c.amt]) := Lib.hid (by rw [HSN.out]; simp)
      clear HSN
      go_quiet (fail)
      go_upto_region 12 with fail
      clear r k1 k2
      have hBd : Below E.heap.size E (E.drewN nq) := below_drewN (Below.refl _ _) _
      have BF := Lib.hid (BE.out.trans (hBd.mono BE.out.size))
      have SF := Lib.hid (SE.out.below hBd SE.out.lt)
      have OF := Lib.hid (own_keep OE.out hBd)
      have CF := Lib.hid (CE.out.below hBd CE.out.lt)
      clear hBd BE SE OE CE RE
      generalize (E.drewN nq) = F at BF SF OF CF ⊢
      have hB : Below F.heap.size F (F.alloc (.cells #[.int .u64 c.amt] 23)) := (Below.refl _ _).alloc (Nat.le_refl _) _
      have BG : Hid (Below w.heap.size w (F.alloc (.cells #[.int .u64 c.amt] 23))) := Lib.hid (BF.out.trans (hB.mono BF.out.size))
      have SG := Lib.hid (SF.out.below hB SF.out.lt)
      have OG := own_keep OF.out hB
      have hN := Blk.new F 23 [.int .u64 c.amt]
      obtain ⟨v2, W2, happ, hown, hO⟩ := app_num (F.alloc (.cells #[.int .u64 c.amt] 23)) w.heap.size m F.heap.size _ _ c.amt OG hN (by omega) BG.out.size
      have HAP := Lib.hid happ
      have HOW := Lib.hid hown
      have HO2 := Lib.hid hO
      have HOG := Lib.hid OG
      clear happ hown hO OG hN hB
      have k2 := CF.out.cell 2
      rw [c.c2] at k2
      go_wp2_with (first | (refine wpList_append_run_ rfl (.tmp 62) (.tmp 65) 95 95 rfl v2 W2 HAP.out ?_))
      go_roundw
      case rel => exact ⟨k + 1, m + 1, v2, by omega, by go_num, rfl, Lib.hid (by rw [HSN2.out, List.length_append]; have := hm.out; simp; omega), Lib.hid (by rw [HSN2.out, ← List.append_assoc, us_append]; exact HOW.out), Lib.hid (SG.out.grown HO2.out (own_ne HOG.out SG.out (by decide))), Lib.hid (below_own BG.out HO2.out HOG.out (Nat.le_refl _) BG.out.size)⟩
      case measure => simp [intOf] <;> omega
    · have hkn : k = n := by omega
      subst hkn
      have h1 := O0.out
      rw [List.take_of_length_le (by rw [HZL.out]; exact Nat.le_refl _), ← HPF.out] at h1
      have hml : m ≤ 502 := by have := hm.out; have := shareL_len 0 ((s.cs.zip ds).take k); rw [List.length_take] at this; omega
      obtain ⟨hN, hNl⟩ := Nums.of_own h1 HPW.out (by omega)
      have HNN := Lib.hid hN
      clear hN h1
      subst hNl
      go_wp2_with fail
      refine (sum_any av cv (partsF s p0 p1 0 ds) wr HNN.out).mono ?_
      rintro e w' ⟨rfl, rfl⟩
      go_wp2
      go_ret2
      exact ⟨rfl, B0.out⟩
set_option maxRecDepth 100000 in
set_option maxHeartbeats 4000000 in
theorem share_1 (s : St) (a ad : Option Addr) (n cap cd : Nat) (p0 p1 : Int) (ds : List Bool) (w : World) (hC : CRow w a s.cs) (hl : s.cs.length = n) (hn : n ≤ 500) (hO : s.Ok) (hp0 : Word p0) (hp1 : Word p1) (hD : BRow w ad ds) (hd : ds.length = n) (hf : (freeF s p0 p1 1).2 = 0) :
    Calls Try.prog 45 #[.agg #[.int .u32 s.ch, .int .u64 s.rd, .int .u64 s.m0, .int .u64 s.m1, .int .u64 s.t0, .int .u64 s.t1, .slice a n cap], .agg #[.int .u64 p0, .int .u64 p1], .agg #[.int .u64 0, .int .u64 0], .int .i64 1, .slice ad n cd] w fun e w' => e = .returned (.tuple #[.int .u64 (sumV (partsF s p0 p1 1 ds)), .int .i64 (sumE (partsF s p0 p1 1 ds))]) ∧ Below w.heap.size w w' := by
  have HPW := Lib.hid (parts_word hO hC.ok hp0 hp1 1 ds)
  have HC := Lib.hid hC
  have HL := Lib.hid hl
  have HO := Lib.hid hO
  have HD := Lib.hid hD
  have HDL := Lib.hid hd
  have HF := Lib.hid hf
  have BA : Hid (Below w.heap.size w (((w.alloc (.cells #[.int .u32 s.ch, .int .u64 s.rd, .int .u64 s.m0, .int .u64 s.m1, .int .u64 s.t0, .int .u64 s.t1, .slice a n cap] 31)).alloc (.cells #[.int .u64 p0, .int .u64 p1] 24)).alloc (.cells #[.int .u64 0, .int .u64 0] 24))) := Lib.hid ((((Below.refl _ _).alloc (Nat.le_refl _) _).alloc (by simp) _).alloc (by simp; omega) _)
  have SA : Hid (Blk (((w.alloc (.cells #[.int .u32 s.ch, .int .u64 s.rd, .int .u64 s.m0, .int .u64 s.m1, .int .u64 s.t0, .int .u64 s.t1, .slice a n cap] 31)).alloc (.cells #[.int .u64 p0, .int .u64 p1] 24)).alloc (.cells #[.int .u64 0, .int .u64 0] 24)) w.heap.size 31 [.int .u32 s.ch, .int .u64 s.rd, .int .u64 s.m0, .int .u64 s.m1, .int .u64 s.t0, .int .u64 s.t1, .slice a n cap]) := Lib.hid (((Blk.mk_ rfl).alloc _).alloc _)
  have PA : Hid (Blk (((w.alloc (.cells #[.int .u32 s.ch, .int .u64 s.rd, .int .u64 s.m0, .int .u64 s.m1, .int .u64 s.t0, .int .u64 s.t1, .slice a n cap] 31)).alloc (.cells #[.int .u64 p0, .int .u64 p1] 24)).alloc (.cells #[.int .u64 0, .int .u64 0] 24)) (w.heap.size + 1) 24 [.int .u64 p0, .int .u64 p1]) := Lib.hid ((Blk.mk_ (by simp)).alloc _)
  have QA : Hid (Blk (((w.alloc (.cells #[.int .u32 s.ch, .int .u64 s.rd, .int .u64 s.m0, .int .u64 s.m1, .int .u64 s.t0, .int .u64 s.t1, .slice a n cap] 31)).alloc (.cells #[.int .u64 p0, .int .u64 p1] 24)).alloc (.cells #[.int .u64 0, .int .u64 0] 24)) (w.heap.size + 1 + 1) 24 [.int .u64 0, .int .u64 0]) := Lib.hid (Blk.mk_ (by simp))
  clear hC hl hO hD hd hf
  go_enter Try.func45, Try.ntmps45
  go_upto_region 1 with fail
  generalize (((w.alloc (.cells #[.int .u32 s.ch, .int .u64 s.rd, .int .u64 s.m0, .int .u64 s.m1, .int .u64 s.t0, .int .u64 s.t1, .slice a n cap] 31)).alloc (.cells #[.int .u64 p0, .int .u64 p1] 24)).alloc (.cells #[.int .u64 0, .int .u64 0] 24)) = A at BA SA PA QA ⊢
  obtain ⟨gq, hgq⟩ : ∃ q, w.heap.size + 1 + 1 = q := ⟨_, rfl⟩
  obtain ⟨gp, hgp⟩ : ∃ q, w.heap.size + 1 = q := ⟨_, rfl⟩
  obtain ⟨gs, hgs⟩ : ∃ q, w.heap.size = q := ⟨_, rfl⟩
  rw [hgq] at QA ⊢
  rw [hgp] at PA ⊢
  rw [hgs] at SA ⊢
  clear hgq hgp
  have HGS := Lib.hid hgs
  clear hgs
  have s0 := SA.out.cell 0
  have s1 := SA.out.cell 1
  have s2 := SA.out.cell 2
  have s3 := SA.out.cell 3
  have s4 := SA.out.cell 4
  have s5 := SA.out.cell 5
  have s6 := SA.out.cell 6
  simp only [List.getElem?_cons_zero, List.getElem?_cons_succ] at s0 s1 s2 s3 s4 s5 s6
  have q0 := PA.out.cell 0
  have q1 := PA.out.cell 1
  simp only [List.getElem?_cons_zero, List.getElem?_cons_succ] at q0 q1
  go_wp2_with fail
  clear s0 s1 s2 s3 s4 s5 s6 q0 q1 PA
  refine ((show Calls Try.prog 13 #[.agg #[.int .u32 s.ch, .int .u64 s.rd, .int .u64 s.m0, .int .u64 s.m1, .int .u64 s.t0, .int .u64 s.t1, .slice a n cap], .agg #[.int .u64 p0, .int .u64 p1], .int .i64 1] A (fun e w2 => e = .returned (.tuple #[.int .u64 (freeF s p0 p1 1).1, .int .i64 (freeF s p0 p1 1).2]) ∧ Below A.heap.size A w2) from free_any s.ch s.rd s.m0 s.m1 s.t0 s.t1 a n cap s.cs p0 p1 1 A (HC.out.below BA.out) HL.out (by omega) hp0 hp1 HO.out.eta)).mono ?_
  rw [HF.out]
  rintro e B ⟨rfl, hB⟩
  have BB : Hid (Below w.heap.size w B) := Lib.hid (BA.out.trans (hB.mono BA.out.size))
  have SB := Lib.hid (SA.out.below hB SA.out.lt)
  have QB := Lib.hid (QA.out.below hB QA.out.lt)
  clear hB BA SA QA HF
  have HPF : Hid (partsF s p0 p1 1 ds = [(freeF s p0 p1 1).1, s.t1] ++ shareL 1 (s.cs.zip ds)) := Lib.hid rfl
  obtain ⟨fv, hfv⟩ : ∃ x, (freeF s p0 p1 1).1 = x := ⟨_, rfl⟩
  rw [hfv]
  rw [hfv] at HPF
  clear hfv
  have HSB : Hid (∀ W, Calls Try.prog 36 #[.int .u64 s.t1, .int .u64 0] W fun e w2 => e = .returned (.tuple #[.int .u64 s.t1, .int .i64 0]) ∧ W = w2) := Lib.hid (fun W => by have h := sub_ok s.t1 0 W HO.out.t1 w0_ (by have := HO.out.t1.1; omega); rwa [Int.sub_zero] at h)
  have s0 := SB.out.cell 0
  have s1 := SB.out.cell 1
  have s2 := SB.out.cell 2
  have s3 := SB.out.cell 3
  have s4 := SB.out.cell 4
  have s5 := SB.out.cell 5
  have s6 := SB.out.cell 6
  simp only [List.getElem?_cons_zero, List.getElem?_cons_succ] at s0 s1 s2 s3 s4 s5 s6
  have q0 := QB.out.cell 0
  have q1 := QB.out.cell 1
  simp only [List.getElem?_cons_zero, List.getElem?_cons_succ] at q0 q1
  go_upto_region 4 with fail
  go_quiet (first | (go_at_call 36; exact quiet_w (HSB.out _)))
  go_upto_region 7 with fail
  clear HSB q0 q1 QB
  have hBd : Below B.heap.size B (B.drewN nq) := below_drewN (Below.refl _ _) _
  have BC := Lib.hid (BB.out.trans (hBd.mono BB.out.size))
  have SC := Lib.hid (SB.out.below hBd SB.out.lt)
  clear hBd BB SB s0 s1 s2 s3 s4 s5 s6
  generalize (B.drewN nq) = C at BC SC ⊢
  go_upto_region 8 with fail
  have hB : Below C.heap.size C (C.alloc (.cells #[.int .u64 fv, .int .u64 s.t1] 23)) := (Below.refl _ _).alloc (Nat.le_refl _) _
  have BD := Lib.hid (BC.out.trans (hB.mono BC.out.size))
  have SD := Lib.hid (SC.out.below hB SC.out.lt)
  have OD : Hid ((C.alloc (.cells #[.int .u64 fv, .int .u64 s.t1] 23)).ownsRow w.heap.size 23 1 (.slice (some ⟨C.heap.size, 0, none⟩) 2 2) 2 (us ([fv, s.t1] ++ shareL 1 ((s.cs.zip ds).take 0)))) := Lib.hid (own_fresh (Blk.new C 23 (us [fv, s.t1])) BC.out.size rfl (by decide))
  clear hB BC SC
  generalize (C.alloc (.cells #[.int .u64 fv, .int .u64 s.t1] 23)) = D at BD SD OD ⊢
  generalize C.heap.size = gn at OD ⊢
  have s0 := SD.out.cell 0
  have s1 := SD.out.cell 1
  have s2 := SD.out.cell 2
  have s3 := SD.out.cell 3
  have s4 := SD.out.cell 4
  have s5 := SD.out.cell 5
  have s6 := SD.out.cell 6
  simp only [List.getElem?_cons_zero, List.getElem?_cons_succ] at s0 s1 s2 s3 s4 s5 s6
  go_wp2
  clear s0 s1 s2 s3 s4 s5 s6
  have HZL : Hid ((s.cs.zip ds).length = n) := Lib.hid (by rw [List.length_zip, HL.out, HDL.out]; omega)
  go_loopw [15, 16, 17, 48] (fun l _ _ j wr => ∃ (k m : Nat) (v : Value), k ≤ n ∧ j = .int .i64 k ∧ v = l ∧ Hid (m = 2 + (shareL 1 ((s.cs.zip ds).take k)).length) ∧ Hid (wr.ownsRow w.heap.size 23 1 v m (us ([fv, s.t1] ++ shareL 1 ((s.cs.zip ds).take k)))) ∧ Hid (Blk wr gs 31 [.int .u32 s.ch, .int .u64 s.rd, .int .u64 s.m0, .int .u64 s.m1, .int .u64 s.t0, .int .u64 s.t1, .slice a n cap]) ∧ Hid (Below w.heap.size w wr)) (fun _ _ _ j _ => n - (intOf j).toNat)
  case atStart => exact ⟨0, 2, _, Nat.zero_le _, rfl, rfl, Lib.hid rfl, OD, SD, BD⟩
  case round =>
    clear OD SD BD
    obtain ⟨k, m, v, hk, rfl, rfl, hm, O0, S0, B0⟩ := hrel
    obtain ⟨av, cv, rfl⟩ := own_slice O0.out
    by_cases hlt : k < n
    · have hk' : k < s.cs.length := by rw [HL.out]; exact hlt
      have hkd : k < ds.length := by rw [HDL.out]; exact hlt
      obtain ⟨b, o, c, rfl, hb, hc, hr, hok⟩ := HC.out.get hk'
      obtain ⟨bd, od, rfl, hbd, hcd⟩ := HD.out.get hkd
      have RG := range_below hr B0.out hb
      have RD := (B0.out.cell (p := ⟨bd, od + k, none⟩) hbd).trans hcd
      have hzk : k < (s.cs.zip ds).length := by rw [HZL.out]; exact hlt
      have hz : (s.cs.zip ds)[k] = (c, ds.getD k false) := by rw [List.getElem_zip, ← hc]; simp [List.getD, hk', hkd]
      obtain ⟨d, hdd⟩ : ∃ d, ds.getD k false = d := ⟨_, rfl⟩
      rw [hdd] at RD hz
      have HSN := Lib.hid (shareL_snoc 1 (s.cs.zip ds) k c d hzk hz)
      have HOK := Lib.hid hok
      have HBD : Hid (bd < wr.heap.size) := Lib.hid (Nat.lt_of_lt_of_le hbd B0.out.size)
      have hml : m ≤ 502 := by have := hm.out; have := shareL_len 1 ((s.cs.zip ds).take k); rw [List.length_take] at this; omega
      clear hc hr hb hk' hkd hbd hcd hzk hz hdd
      have hz1 : (Try.prog.info? 60).map (·.size) = some c.cells.toArray.size := by rw [hok.size]; exact info60
      have hz2 : (Try.prog.info? 60).map (·.size) = some c.cells.length := by rw [hok.len]; exact info60
      have hz3 : (#[.int .u64 0, .int .i64 0, .int .u64 0, .int .u8 0, .int .u8 0, .int .u8 0, .int .u8 0, .int .u8 0, .int .u8 0, .int .u8 0, .int .u8 0, .int .u8 0, .int .u8 0, .int .u8 0, .int .u8 0, .int .u8 0, .int .u8 0, .int .u8 0, .int .u8 0, .int .u8 0, .int .u8 0, .int .u8 0, .int .u8 0, .int .u8 0, .int .u8 0, .int .u8 0, .int .u8 0, .int .u8 0, .int .u8 0, .int .u8 0, .int .u8 0, .int .u8 0, .int .u8 0, .int .u8 0, .int .u8 0, .int .u64 0] : Array Value).size = c.cells.toArray.size := by rw [hok.size]; rfl
      have hco := c.all_one
      have HLA := heap_alloc_last wr (.cells #[.int .u64 0, .int .i64 0, .int .u64 0, .int .u8 0, .int .u8 0, .int .u8 0, .int .u8 0, .int .u8 0, .int .u8 0, .int .u8 0, .int .u8 0, .int .u8 0, .int .u8 0, .int .u8 0, .int .u8 0, .int .u8 0, .int .u8 0, .int .u8 0, .int .u8 0, .int .u8 0, .int .u8 0, .int .u8 0, .int .u8 0, .int .u8 0, .int .u8 0, .int .u8 0, .int .u8 0, .int .u8 0, .int .u8 0, .int .u8 0, .int .u8 0, .int .u8 0, .int .u8 0, .int .u8 0, .int .u8 0, .int .u64 0] 60)
      go_upto_region 11 with (first | (refine wpList_load_mid rfl 60 (.tmp 51) rfl b (o + k * 36) rfl c.cells _ RG Try.underlying60 rfl hz2 ?_) | (refine wpList_store_row rfl 60 (.tmp 17) (.tmp 52) rfl wr.heap.size c.cells.toArray rfl rfl 60 _ HLA hz1 hz3 hco ?_; rw [World.setRow_alloc_new]) | fail)
      have hD := Blk.new wr 60 c.cells
      clear hz1 hz2 hz3 hco HLA
      have hB : Below wr.heap.size wr (wr.alloc (.cells c.cells.toArray 60)) := (Below.refl _ _).alloc (Nat.le_refl _) _
      have BE := Lib.hid (B0.out.trans (hB.mono B0.out.size))
      have SE := Lib.hid (S0.out.below hB S0.out.lt)
      have OE := Lib.hid (own_keep O0.out hB)
      have CE : Hid (Blk (wr.alloc (.cells c.cells.toArray 60)) wr.heap.size 60 c.cells) := Lib.hid hD
      have RE : Hid ((wr.alloc (.cells c.cells.toArray 60)).cell? ⟨bd, od + k, none⟩ = some (.bool d)) := Lib.hid ((hB.cell (p := ⟨bd, od + k, none⟩) HBD.out).trans RD)
      clear hB hD B0 S0 O0 RG RD hok HBD
      generalize (wr.alloc (.cells c.cells.toArray 60)) = E at BE SE OE CE RE ⊢
      generalize wr.heap.size = gc at CE ⊢
      have r := RE.out
      have k1 := CE.out.cell 1
      have k2 := CE.out.cell 2
      rw [c.c1] at k1
      rw [c.c2] at k2
      obtain ⟨sb, hsb⟩ : ∃ x, (c.side == 1) = x := ⟨_, rfl⟩
      rw [hsb] at HSN
      obtain ⟨nb, hnb⟩ : ∃ x, (!(sb == d)) = x := ⟨_, rfl⟩
      have hne : (sb != d) = nb := hnb
      rw [hne] at HSN
      clear hne
      skip
      cases nb
      case false =>
        have HSN2 : Hid (shareL 1 ((s.cs.zip ds).take (k + 1)) = shareL 1 ((s.cs.zip ds).take k)) := Lib.hid (by rw [HSN.out]; simp)
        clear HSN
        go_quiet (fail)
        go_wp2
        go_roundw
        case rel => exact ⟨k + 1, m, _, by omega, by go_num, rfl, Lib.hid (by rw [HSN2.out]; exact hm.out), Lib.hid (by rw [HSN2.out]; exact own_keep OE.out (below_drewN (Below.refl _ _) _)), Lib.hid (SE.out.drewN _), Lib.hid (below_drewN BE.out _)⟩
        case measure => simp [intOf] <;> omega
      have HSN2 : Hid (shareL 1 ((s.cs.zip ds).take (k + 1)) = shareL 1 ((s.cs.zip ds).take k) ++ [c.amt]) := Lib.hid (by rw [HSN.out]; simp)
      clear HSN
      go_quiet (fail)
      go_upto_region 12 with fail
      clear r k1 k2
      have hBd : Below E.heap.size E (E.drewN nq) := below_drewN (Below.refl _ _) _
      have BF := Lib.hid (BE.out.trans (hBd.mono BE.out.size))
      have SF := Lib.hid (SE.out.below hBd SE.out.lt)
      have OF := Lib.hid (own_keep OE.out hBd)
      have CF := Lib.hid (CE.out.below hBd CE.out.lt)
      clear hBd BE SE OE CE RE
      generalize (E.drewN nq) = F at BF SF OF CF ⊢
      have hB : Below F.heap.size F (F.alloc (.cells #[.int .u64 c.amt] 23)) := (Below.refl _ _).alloc (Nat.le_refl _) _
      have BG : Hid (Below w.heap.size w (F.alloc (.cells #[.int .u64 c.amt] 23))) := Lib.hid (BF.out.trans (hB.mono BF.out.size))
      have SG := Lib.hid (SF.out.below hB SF.out.lt)
      have OG := own_keep OF.out hB
      have hN := Blk.new F 23 [.int .u64 c.amt]
      obtain ⟨v2, W2, happ, hown, hO⟩ := app_num (F.alloc (.cells #[.int .u64 c.amt] 23)) w.heap.size m F.heap.size _ _ c.amt OG hN (by omega) BG.out.size
      have HAP := Lib.hid happ
      have HOW := Lib.hid hown
      have HO2 := Lib.hid hO
      have HOG := Lib.hid OG
      clear happ hown hO OG hN hB
      have k2 := CF.out.cell 2
      rw [c.c2] at k2
      go_wp2_with (first | (refine wpList_append_run_ rfl (.tmp 62) (.tmp 65) 95 95 rfl v2 W2 HAP.out ?_))
      go_roundw
      case rel => exact ⟨k + 1, m + 1, v2, by omega, by go_num, rfl, Lib.hid (by rw [HSN2.out, List.length_append]; have := hm.out; simp; omega), Lib.hid (by rw [HSN2.out, ← List.append_assoc, us_append]; exact HOW.out), Lib.hid (SG.out.grown HO2.out (own_ne HOG.out SG.out (by decide))), Lib.hid (below_own BG.out HO2.out HOG.out (Nat.le_refl _) BG.out.size)⟩
      case measure => simp [intOf] <;> omega
    · have hkn : k = n := by omega
      subst hkn
      have h1 := O0.out
      rw [List.take_of_length_le (by rw [HZL.out]; exact Nat.le_refl _), ← HPF.out] at h1
      have hml : m ≤ 502 := by have := hm.out; have := shareL_len 1 ((s.cs.zip ds).take k); rw [List.length_take] at this; omega
      obtain ⟨hN, hNl⟩ := Nums.of_own h1 HPW.out (by omega)
      have HNN := Lib.hid hN
      clear hN h1
      subst hNl
      go_wp2_with fail
      refine (sum_any av cv (partsF s p0 p1 1 ds) wr HNN.out).mono ?_
      rintro e w' ⟨rfl, rfl⟩
      go_wp2
      go_ret2
      exact ⟨rfl, B0.out⟩
end Go.Proofs.Ytkiifjkcpangfaa
