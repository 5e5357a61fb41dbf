/-
  What a side's worth is, and that the other side's doing never lowers it but by a payment of its own that is done.
-/
import Derived.Test.YtkiifjkcpangfaaPacX
namespace Go.Proofs.Ytkiifjkcpangfaa
open Go.RowKit
set_option linter.unusedVariables false

def worthF (s : St) (p0 p1 side : Int) : Int := if side = 0 then p0 + s.m1 - s.m0 else p1 + s.m0 - s.m1
theorem sum3 {a b c : Int} (h : sumE [a, b, c] = 0) : sumV [a, b, c] = a + b + c := by
  unfold sumE at h
  unfold sumV
  simp only [sumGo] at h ⊢
  have e : ∀ x y : Int, addE x y = 0 → addV x y = x + y := fun x y h => by
    unfold addE at h; unfold addV; split at h <;> simp_all
  by_cases h1 : addE 0 a = 0
  · rw [if_pos h1] at h ⊢
    rw [e _ _ h1] at h ⊢
    by_cases h2 : addE (0 + a) b = 0
    · rw [if_pos h2] at h ⊢
      rw [e _ _ h2] at h ⊢
      by_cases h3 : addE (0 + a + b) c = 0
      · rw [if_pos h3, e _ _ h3]; simp
      · rw [if_neg h3] at h; cases h
    · rw [if_neg h2] at h; cases h
  · rw [if_neg h1] at h; cases h
theorem worth_free {s : St} {p0 p1 side : Int} (hs : side = 0 ∨ side = 1) (h : (freeF s p0 p1 side).2 = 0) : (freeF s p0 p1 side).1 + heldV side s.cs + s.tk side = worthF s p0 p1 side := by
  unfold worthF St.tk heldV
  rcases hs with rfl | rfl
  · rw [freeF_0] at h ⊢
    rw [free2_val h, if_pos rfl, if_pos rfl]
    omega
  · rw [freeF_1] at h ⊢
    rw [free2_val h, if_neg (by decide), if_neg (by decide)]
    omega
theorem keeps {s : St} {p0 p1 T k amt : Int} {c : Cnd} {id : Int} (hT : T = 0 ∨ T = 1) (hc : ∀ x ∈ s.cs, x.Ok) (hamt : Word amt) (h : nextE s p0 p1 T k amt c id = 0) :
    worthF s p0 p1 (1 - T) ≤ worthF (nextS s p0 p1 T k amt c id) p0 p1 (1 - T) ∨ (k = 3 ∧ ∃ j : Nat, j < s.cs.length ∧ findV id s.cs = (j : Int) ∧ (s.cs.getD j cnd0).side = 1 - T) := by
  obtain ⟨h1, h2, h3, h4, h5, h6⟩ := nextE_zero h
  rw [h5]
  have ha := hamt.1
  unfold doS
  by_cases k1 : k = 1
  · left; rw [if_pos k1]
    unfold worthF St.pay St.nxt
    rcases hT with rfl | rfl <;> simp <;> omega
  rw [if_neg k1]
  by_cases k2 : k = 2
  · left; rw [if_pos k2]; unfold worthF St.add St.nxt; simp
  rw [if_neg k2]
  by_cases k3 : k = 3
  · subst k3
    rw [if_pos rfl]
    unfold doE at h4
    simp at h4
    split at h4
    · cases h4
    · rename_i hf
      have hcs : s.nxt.cs = s.cs := rfl
      rw [hcs] at hf
      rcases findV_at id s.cs with ⟨hf1, _⟩ | ⟨j, hj, hf1, hid, _⟩
      · omega
      · have hat : s.nxt.at_ id = s.cs.getD j cnd0 := by unfold St.at_; rw [hcs, hf1]; rfl
        rw [hat]
        have hmem := getD_mem hj
        have hsd := sound_sides h1 _ hmem
        have hw := (hc _ hmem).amt.1
        by_cases hown : (s.cs.getD j cnd0).side = 1 - T
        · exact .inr ⟨rfl, j, hj, hf1, hown⟩
        · left
          generalize s.cs.getD j cnd0 = x at hsd hw hown ⊢
          unfold worthF St.pay St.less St.out St.nxt
          rcases hT with rfl | rfl <;> rcases hsd with h | h <;> rw [h] at hown ⊢ <;> simp at hown ⊢ <;> omega
  rw [if_neg k3]
  by_cases k4 : k = 4
  · left; rw [if_pos k4]; unfold worthF St.less St.out St.nxt; simp
  rw [if_neg k4]
  by_cases k5 : k = 5
  · left; rw [if_pos k5]
    unfold worthF St.tak St.nxt
    rcases hT with rfl | rfl <;> simp
  rw [if_neg k5]
  left; unfold worthF St.nxt; simp

set_option maxRecDepth 100000 in
set_option maxHeartbeats 4000000 in
theorem worth_0 (s : St) (a : Option Addr) (n cap : Nat) (p0 p1 : Int) (w : World) (hC : CRow w a s.cs) (hl : s.cs.length = n) (hn : n ≤ 1000) (hO : s.Ok) (hp0 : Word p0) (hp1 : Word p1) :
    Calls Try.prog 32 #[.agg #[.int .u32 s.ch, .int .u64 s.rd, .int .u64 s.m0, .int .u64 s.m1, .int .u64 s.t0, .int .u64 s.t1, .slice a n cap], .agg #[.int .u64 p0, .int .u64 p1], .int .i64 0] w fun e w' => ∃ (v : Int) (ok : Bool), e = .returned (.tuple #[.int .u64 v, .bool ok]) ∧ Below w.heap.size w w' ∧ (ok = true → v = worthF s p0 p1 0) := by
  have HC := Lib.hid hC
  have HL := Lib.hid hl
  have HO := Lib.hid hO
  have BA : Hid (Below w.heap.size w ((w.alloc (.cells #[.int .u32 s.ch, .int .u64 s.rd, .int .u64 s.m0, .int .u64 s.m1, .int .u64 s.t0, .int .u64 s.t1, .slice a n cap] 31)).alloc (.cells #[.int .u64 p0, .int .u64 p1] 24))) := Lib.hid (((Below.refl _ _).alloc (Nat.le_refl _) _).alloc (by simp) _)
  have SA : Hid (Blk ((w.alloc (.cells #[.int .u32 s.ch, .int .u64 s.rd, .int .u64 s.m0, .int .u64 s.m1, .int .u64 s.t0, .int .u64 s.t1, .slice a n cap] 31)).alloc (.cells #[.int .u64 p0, .int .u64 p1] 24)) w.heap.size 31 [.int .u32 s.ch, .int .u64 s.rd, .int .u64 s.m0, .int .u64 s.m1, .int .u64 s.t0, .int .u64 s.t1, .slice a n cap]) := Lib.hid ((Blk.mk_ rfl).alloc _)
  have PA : Hid (Blk ((w.alloc (.cells #[.int .u32 s.ch, .int .u64 s.rd, .int .u64 s.m0, .int .u64 s.m1, .int .u64 s.t0, .int .u64 s.t1, .slice a n cap] 31)).alloc (.cells #[.int .u64 p0, .int .u64 p1] 24)) (w.heap.size + 1) 24 [.int .u64 p0, .int .u64 p1]) := Lib.hid (Blk.mk_ (by simp))
  have HVW := Lib.hid (heldV_word 0 s.cs hC.ok)
  have HTW : Hid (Word s.t0) := Lib.hid hO.t0
  have HWF := Lib.hid (fun h => worth_free (s := s) (p0 := p0) (p1 := p1) (side := 0) (by decide) h)
  clear hC hl hO
  go_enter Try.func32, Try.ntmps32
  go_upto_region 1 with fail
  generalize ((w.alloc (.cells #[.int .u32 s.ch, .int .u64 s.rd, .int .u64 s.m0, .int .u64 s.m1, .int .u64 s.t0, .int .u64 s.t1, .slice a n cap] 31)).alloc (.cells #[.int .u64 p0, .int .u64 p1] 24)) = A at BA SA PA ⊢
  obtain ⟨gp, hgp⟩ : ∃ q, w.heap.size + 1 = q := ⟨_, rfl⟩
  obtain ⟨gs, hgs⟩ : ∃ q, w.heap.size = q := ⟨_, rfl⟩
  rw [hgp] at PA ⊢
  rw [hgs] at SA ⊢
  clear hgp
  have HGS := Lib.hid hgs
  clear hgs
  have s0 := SA.out.cell 0
  have s1 := SA.out.cell 1
  have s2 := SA.out.cell 2
  have s3 := SA.out.cell 3
  have s4 := SA.out.cell 4
  have s5 := SA.out.cell 5
  have s6 := SA.out.cell 6
  simp only [List.getElem?_cons_zero, List.getElem?_cons_succ] at s0 s1 s2 s3 s4 s5 s6
  have q0 := PA.out.cell 0
  have q1 := PA.out.cell 1
  simp only [List.getElem?_cons_zero, List.getElem?_cons_succ] at q0 q1
  go_wp2_with fail
  clear s0 s1 s2 s3 s4 s5 s6 q0 q1
  refine ((show Calls Try.prog 13 #[.agg #[.int .u32 s.ch, .int .u64 s.rd, .int .u64 s.m0, .int .u64 s.m1, .int .u64 s.t0, .int .u64 s.t1, .slice a n cap], .agg #[.int .u64 p0, .int .u64 p1], .int .i64 0] A (fun e w2 => e = .returned (.tuple #[.int .u64 (freeF s p0 p1 0).1, .int .i64 (freeF s p0 p1 0).2]) ∧ Below A.heap.size A w2) from free_any s.ch s.rd s.m0 s.m1 s.t0 s.t1 a n cap s.cs p0 p1 0 A (HC.out.below BA.out) HL.out hn hp0 hp1 HO.out.eta)).mono ?_
  rintro e B ⟨rfl, hB⟩
  have BB : Hid (Below w.heap.size w B) := Lib.hid (BA.out.trans (hB.mono BA.out.size))
  have SB := Lib.hid (SA.out.below hB SA.out.lt)
  clear hB BA SA PA
  have HFW : Hid (Word (freeF s p0 p1 0).1) := Lib.hid (by rw [freeF_0]; exact free2_word _ _ _ _ _ HVW.out hp0 HO.out.m1 HO.out.m0 HTW.out)
  obtain ⟨fv, hfv⟩ : ∃ x, (freeF s p0 p1 0).1 = x := ⟨_, rfl⟩
  obtain ⟨fe, hfe⟩ : ∃ x, (freeF s p0 p1 0).2 = x := ⟨_, rfl⟩
  rw [hfv, hfe]
  rw [hfv, hfe] at HWF
  rw [hfv] at HFW
  clear hfv hfe
  have s0 := SB.out.cell 0
  have s1 := SB.out.cell 1
  have s2 := SB.out.cell 2
  have s3 := SB.out.cell 3
  have s4 := SB.out.cell 4
  have s5 := SB.out.cell 5
  have s6 := SB.out.cell 6
  simp only [List.getElem?_cons_zero, List.getElem?_cons_succ] at s0 s1 s2 s3 s4 s5 s6
  go_wp2_with fail
  clear s0 s1 s2 s3 s4 s5 s6
  refine (held_any s.ch s.rd s.m0 s.m1 s.t0 s.t1 a n cap s.cs 0 B (HC.out.below BB.out) HL.out hn).mono ?_
  rintro e C ⟨rfl, hB⟩
  have BC : Hid (Below w.heap.size w C) := Lib.hid (BB.out.trans (hB.mono BB.out.size))
  have SC := Lib.hid (SB.out.below hB SB.out.lt)
  clear hB BB SB
  obtain ⟨hv, hhv⟩ : ∃ x, heldV 0 s.cs = x := ⟨_, rfl⟩
  obtain ⟨he, hhe⟩ : ∃ x, heldE 0 s.cs = x := ⟨_, rfl⟩
  rw [hhv, hhe]
  rw [hhv] at HWF HVW
  clear hhv hhe
  have s0 := SC.out.cell 0
  have s1 := SC.out.cell 1
  have s2 := SC.out.cell 2
  have s3 := SC.out.cell 3
  have s4 := SC.out.cell 4
  have s5 := SC.out.cell 5
  have s6 := SC.out.cell 6
  simp only [List.getElem?_cons_zero, List.getElem?_cons_succ] at s0 s1 s2 s3 s4 s5 s6
  have hand : bits BinOp.and IntKind.i64 0 1 = 0 := by kernel_rfl
  go_wp2_with fail
  clear s0 s1 s2 s3 s4 s5 s6
  have BD : Hid (Below w.heap.size w (C.alloc (.cells #[.int .u64 fv, .int .u64 hv, .int .u64 s.t0] 23))) := Lib.hid (BC.out.alloc BC.out.size _)
  have HN : Nums (C.alloc (.cells #[.int .u64 fv, .int .u64 hv, .int .u64 s.t0] 23)) (some ⟨C.heap.size, 0, none⟩) [fv, hv, s.t0] := by
    refine ⟨.inr ⟨C.heap.size, 0, rfl, by simp, fun j hj => ?_⟩, ?_, by show 3 ≤ _; decide⟩
    · have hb := Blk.new C 23 [.int .u64 fv, .int .u64 hv, .int .u64 s.t0]
      match j, hj with
      | 0, _ => exact hb.cell 0
      | 1, _ => exact hb.cell 1
      | 2, _ => exact hb.cell 2
    · intro x hx
      simp at hx
      rcases hx with rfl | rfl | rfl
      · exact HFW.out
      · exact HVW.out
      · exact HTW.out
  refine (rsum_any (some ⟨C.heap.size, 0, none⟩) 3 [fv, hv, s.t0] _ HN).mono ?_
  rintro e D ⟨rfl, rfl⟩
  clear HN SC
  have HS3 := Lib.hid (fun h => sum3 (a := fv) (b := hv) (c := s.t0) h)
  obtain ⟨sv, hsv⟩ : ∃ x, sumV [fv, hv, s.t0] = x := ⟨_, rfl⟩
  obtain ⟨se, hse⟩ : ∃ x, sumE [fv, hv, s.t0] = x := ⟨_, rfl⟩
  rw [hsv, hse]
  rw [hsv, hse] at HS3
  clear hsv hse hand
  by_cases e1 : fe = 0
  · have b1 : (fe == 0) = true := by simpa using e1
    by_cases e2 : he = 0
    · have b2 : (he == 0) = true := by simpa using e2
      by_cases e3 : se = 0
      · have b3 : (se == 0) = true := by simpa using e3
        have HW : Hid (sv = worthF s p0 p1 0) := Lib.hid ((HS3.out e3).trans (HWF.out e1))
        clear e1 e2 e3
        go_wp2
        go_ret2
        exact ⟨sv, true, rfl, BD.out, fun _ => HW.out⟩
      · have b3 : (se == 0) = false := by simpa using e3
        clear e1 e2 e3
        go_wp2
        go_ret2
        exact ⟨sv, false, rfl, BD.out, fun h => by cases h⟩
    · have b2 : (he == 0) = false := by simpa using e2
      clear e1 e2
      go_wp2
      go_ret2
      exact ⟨sv, false, rfl, BD.out, fun h => by cases h⟩
  · have b1 : (fe == 0) = false := by simpa using e1
    clear e1
    go_wp2
    go_ret2
    exact ⟨sv, false, rfl, BD.out, fun h => by cases h⟩
set_option maxRecDepth 100000 in
set_option maxHeartbeats 4000000 in
theorem worth_1 (s : St) (a : Option Addr) (n cap : Nat) (p0 p1 : Int) (w : World) (hC : CRow w a s.cs) (hl : s.cs.length = n) (hn : n ≤ 1000) (hO : s.Ok) (hp0 : Word p0) (hp1 : Word p1) :
    Calls Try.prog 32 #[.agg #[.int .u32 s.ch, .int .u64 s.rd, .int .u64 s.m0, .int .u64 s.m1, .int .u64 s.t0, .int .u64 s.t1, .slice a n cap], .agg #[.int .u64 p0, .int .u64 p1], .int .i64 1] w fun e w' => ∃ (v : Int) (ok : Bool), e = .returned (.tuple #[.int .u64 v, .bool ok]) ∧ Below w.heap.size w w' ∧ (ok = true → v = worthF s p0 p1 1) := by
  have HC := Lib.hid hC
  have HL := Lib.hid hl
  have HO := Lib.hid hO
  have BA : Hid (Below w.heap.size w ((w.alloc (.cells #[.int .u32 s.ch, .int .u64 s.rd, .int .u64 s.m0, .int .u64 s.m1, .int .u64 s.t0, .int .u64 s.t1, .slice a n cap] 31)).alloc (.cells #[.int .u64 p0, .int .u64 p1] 24))) := Lib.hid (((Below.refl _ _).alloc (Nat.le_refl _) _).alloc (by simp) _)
  have SA : Hid (Blk ((w.alloc (.cells #[.int .u32 s.ch, .int .u64 s.rd, .int .u64 s.m0, .int .u64 s.m1, .int .u64 s.t0, .int .u64 s.t1, .slice a n cap] 31)).alloc (.cells #[.int .u64 p0, .int .u64 p1] 24)) w.heap.size 31 [.int .u32 s.ch, .int .u64 s.rd, .int .u64 s.m0, .int .u64 s.m1, .int .u64 s.t0, .int .u64 s.t1, .slice a n cap]) := Lib.hid ((Blk.mk_ rfl).alloc _)
  have PA : Hid (Blk ((w.alloc (.cells #[.int .u32 s.ch, .int .u64 s.rd, .int .u64 s.m0, .int .u64 s.m1, .int .u64 s.t0, .int .u64 s.t1, .slice a n cap] 31)).alloc (.cells #[.int .u64 p0, .int .u64 p1] 24)) (w.heap.size + 1) 24 [.int .u64 p0, .int .u64 p1]) := Lib.hid (Blk.mk_ (by simp))
  have HVW := Lib.hid (heldV_word 1 s.cs hC.ok)
  have HTW : Hid (Word s.t1) := Lib.hid hO.t1
  have HWF := Lib.hid (fun h => worth_free (s := s) (p0 := p0) (p1 := p1) (side := 1) (by decide) h)
  clear hC hl hO
  go_enter Try.func32, Try.ntmps32
  go_upto_region 1 with fail
  generalize ((w.alloc (.cells #[.int .u32 s.ch, .int .u64 s.rd, .int .u64 s.m0, .int .u64 s.m1, .int .u64 s.t0, .int .u64 s.t1, .slice a n cap] 31)).alloc (.cells #[.int .u64 p0, .int .u64 p1] 24)) = A at BA SA PA ⊢
  obtain ⟨gp, hgp⟩ : ∃ q, w.heap.size + 1 = q := ⟨_, rfl⟩
  obtain ⟨gs, hgs⟩ : ∃ q, w.heap.size = q := ⟨_, rfl⟩
  rw [hgp] at PA ⊢
  rw [hgs] at SA ⊢
  clear hgp
  have HGS := Lib.hid hgs
  clear hgs
  have s0 := SA.out.cell 0
  have s1 := SA.out.cell 1
  have s2 := SA.out.cell 2
  have s3 := SA.out.cell 3
  have s4 := SA.out.cell 4
  have s5 := SA.out.cell 5
  have s6 := SA.out.cell 6
  simp only [List.getElem?_cons_zero, List.getElem?_cons_succ] at s0 s1 s2 s3 s4 s5 s6
  have q0 := PA.out.cell 0
  have q1 := PA.out.cell 1
  simp only [List.getElem?_cons_zero, List.getElem?_cons_succ] at q0 q1
  go_wp2_with fail
  clear s0 s1 s2 s3 s4 s5 s6 q0 q1
  refine ((show Calls Try.prog 13 #[.agg #[.int .u32 s.ch, .int .u64 s.rd, .int .u64 s.m0, .int .u64 s.m1, .int .u64 s.t0, .int .u64 s.t1, .slice a n cap], .agg #[.int .u64 p0, .int .u64 p1], .int .i64 1] A (fun e w2 => e = .returned (.tuple #[.int .u64 (freeF s p0 p1 1).1, .int .i64 (freeF s p0 p1 1).2]) ∧ Below A.heap.size A w2) from free_any s.ch s.rd s.m0 s.m1 s.t0 s.t1 a n cap s.cs p0 p1 1 A (HC.out.below BA.out) HL.out hn hp0 hp1 HO.out.eta)).mono ?_
  rintro e B ⟨rfl, hB⟩
  have BB : Hid (Below w.heap.size w B) := Lib.hid (BA.out.trans (hB.mono BA.out.size))
  have SB := Lib.hid (SA.out.below hB SA.out.lt)
  clear hB BA SA PA
  have HFW : Hid (Word (freeF s p0 p1 1).1) := Lib.hid (by rw [freeF_1]; exact free2_word _ _ _ _ _ HVW.out hp1 HO.out.m0 HO.out.m1 HTW.out)
  obtain ⟨fv, hfv⟩ : ∃ x, (freeF s p0 p1 1).1 = x := ⟨_, rfl⟩
  obtain ⟨fe, hfe⟩ : ∃ x, (freeF s p0 p1 1).2 = x := ⟨_, rfl⟩
  rw [hfv, hfe]
  rw [hfv, hfe] at HWF
  rw [hfv] at HFW
  clear hfv hfe
  have s0 := SB.out.cell 0
  have s1 := SB.out.cell 1
  have s2 := SB.out.cell 2
  have s3 := SB.out.cell 3
  have s4 := SB.out.cell 4
  have s5 := SB.out.cell 5
  have s6 := SB.out.cell 6
  simp only [List.getElem?_cons_zero, List.getElem?_cons_succ] at s0 s1 s2 s3 s4 s5 s6
  go_wp2_with fail
  clear s0 s1 s2 s3 s4 s5 s6
  refine (held_any s.ch s.rd s.m0 s.m1 s.t0 s.t1 a n cap s.cs 1 B (HC.out.below BB.out) HL.out hn).mono ?_
  rintro e C ⟨rfl, hB⟩
  have BC : Hid (Below w.heap.size w C) := Lib.hid (BB.out.trans (hB.mono BB.out.size))
  have SC := Lib.hid (SB.out.below hB SB.out.lt)
  clear hB BB SB
  obtain ⟨hv, hhv⟩ : ∃ x, heldV 1 s.cs = x := ⟨_, rfl⟩
  obtain ⟨he, hhe⟩ : ∃ x, heldE 1 s.cs = x := ⟨_, rfl⟩
  rw [hhv, hhe]
  rw [hhv] at HWF HVW
  clear hhv hhe
  have s0 := SC.out.cell 0
  have s1 := SC.out.cell 1
  have s2 := SC.out.cell 2
  have s3 := SC.out.cell 3
  have s4 := SC.out.cell 4
  have s5 := SC.out.cell 5
  have s6 := SC.out.cell 6
  simp only [List.getElem?_cons_zero, List.getElem?_cons_succ] at s0 s1 s2 s3 s4 s5 s6
  have hand : bits BinOp.and IntKind.i64 1 1 = 1 := by kernel_rfl
  go_wp2_with fail
  clear s0 s1 s2 s3 s4 s5 s6
  have BD : Hid (Below w.heap.size w (C.alloc (.cells #[.int .u64 fv, .int .u64 hv, .int .u64 s.t1] 23))) := Lib.hid (BC.out.alloc BC.out.size _)
  have HN : Nums (C.alloc (.cells #[.int .u64 fv, .int .u64 hv, .int .u64 s.t1] 23)) (some ⟨C.heap.size, 0, none⟩) [fv, hv, s.t1] := by
    refine ⟨.inr ⟨C.heap.size, 0, rfl, by simp, fun j hj => ?_⟩, ?_, by show 3 ≤ _; decide⟩
    · have hb := Blk.new C 23 [.int .u64 fv, .int .u64 hv, .int .u64 s.t1]
      match j, hj with
      | 0, _ => exact hb.cell 0
      | 1, _ => exact hb.cell 1
      | 2, _ => exact hb.cell 2
    · intro x hx
      simp at hx
      rcases hx with rfl | rfl | rfl
      · exact HFW.out
      · exact HVW.out
      · exact HTW.out
  refine (rsum_any (some ⟨C.heap.size, 0, none⟩) 3 [fv, hv, s.t1] _ HN).mono ?_
  rintro e D ⟨rfl, rfl⟩
  clear HN SC
  have HS3 := Lib.hid (fun h => sum3 (a := fv) (b := hv) (c := s.t1) h)
  obtain ⟨sv, hsv⟩ : ∃ x, sumV [fv, hv, s.t1] = x := ⟨_, rfl⟩
  obtain ⟨se, hse⟩ : ∃ x, sumE [fv, hv, s.t1] = x := ⟨_, rfl⟩
  rw [hsv, hse]
  rw [hsv, hse] at HS3
  clear hsv hse hand
  by_cases e1 : fe = 0
  · have b1 : (fe == 0) = true := by simpa using e1
    by_cases e2 : he = 0
    · have b2 : (he == 0) = true := by simpa using e2
      by_cases e3 : se = 0
      · have b3 : (se == 0) = true := by simpa using e3
        have HW : Hid (sv = worthF s p0 p1 1) := Lib.hid ((HS3.out e3).trans (HWF.out e1))
        clear e1 e2 e3
        go_wp2
        go_ret2
        exact ⟨sv, true, rfl, BD.out, fun _ => HW.out⟩
      · have b3 : (se == 0) = false := by simpa using e3
        clear e1 e2 e3
        go_wp2
        go_ret2
        exact ⟨sv, false, rfl, BD.out, fun h => by cases h⟩
    · have b2 : (he == 0) = false := by simpa using e2
      clear e1 e2
      go_wp2
      go_ret2
      exact ⟨sv, false, rfl, BD.out, fun h => by cases h⟩
  · have b1 : (fe == 0) = false := by simpa using e1
    clear e1
    go_wp2
    go_ret2
    exact ⟨sv, false, rfl, BD.out, fun h => by cases h⟩

theorem worth_any (s : St) (a : Option Addr) (n cap : Nat) (p0 p1 side : Int) (w : World) (hs : side = 0 ∨ side = 1) (hC : CRow w a s.cs) (hl : s.cs.length = n) (hn : n ≤ 1000) (hO : s.Ok) (hp0 : Word p0) (hp1 : Word p1) :
    Calls Try.prog 32 #[.agg #[.int .u32 s.ch, .int .u64 s.rd, .int .u64 s.m0, .int .u64 s.m1, .int .u64 s.t0, .int .u64 s.t1, .slice a n cap], .agg #[.int .u64 p0, .int .u64 p1], .int .i64 side] w fun e w' => ∃ (v : Int) (ok : Bool), e = .returned (.tuple #[.int .u64 v, .bool ok]) ∧ Below w.heap.size w w' ∧ (ok = true → v = worthF s p0 p1 side) := by
  rcases hs with rfl | rfl
  · exact worth_0 s a n cap p0 p1 w hC hl hn hO hp0 hp1
  · exact worth_1 s a n cap p0 p1 w hC hl hn hO hp0 hp1
def wr64 (x : Int) : Int := IntKind.u64.wrap x
theorem wr64_eq (x : Int) : wr64 x = x % 18446744073709551616 := by unfold wr64; simp [IntKind.wrap, IntKind.signed, IntKind.bits]
theorem wr64_word (x : Int) : Word (wr64 x) := by rw [wr64_eq]; unfold Word; omega
theorem other_any (T : Int) (hT : T = 0 ∨ T = 1) (W : World) : Calls Try.prog 31 #[.int .i64 T] W fun e w' => e = .returned (.int .i64 (1 - T)) ∧ W = w' := by
  rcases hT with rfl | rfl
  · exact other0 W
  · exact other1 W
theorem nextS_cok {s : St} {p0 p1 T k amt : Int} {c : Cnd} {id : Int} (hs : ∀ x ∈ s.cs, x.Ok) (hc : c.Ok) : ∀ x ∈ (nextS s p0 p1 T k amt c id).cs, x.Ok := by
  unfold nextS
  split
  · exact doS_cok s.nxt hs _ _ _ _ hc _
  · intro x hx; cases hx
theorem nextS_ok {s : St} {p0 p1 T k amt : Int} {c : Cnd} {id : Int} (hs : s.Ok) (hs2 : ∀ x ∈ s.cs, x.Ok) (hamt : Word amt) (h : nextE s p0 p1 T k amt c id = 0) : (nextS s p0 p1 T k amt c id).Ok ∧ (nextS s p0 p1 T k amt c id).cs.length ≤ 8 ∧ soundE (nextS s p0 p1 T k amt c id) p0 p1 = 0 := by
  obtain ⟨h1, h2, h3, h4, h5, h6⟩ := nextE_zero h
  rw [h5]
  have hr := (sound_parts h1).1
  refine ⟨doS_ok (s := s.nxt) ⟨⟨by have := hs.rd.1; show 0 ≤ s.rd + 1; omega, by show s.rd + 1 ≤ _; omega⟩, hs.m0, hs.m1, hs.t0, hs.t1⟩ hs2 hamt h4, (sound_parts h6).2.1, h6⟩

/-- A wish. -/
structure Wish where
  k : Int
  amt : Int
  c : Cnd
  id : Int
def wish0 : Wish := ⟨0, 0, cnd0, 0⟩
def Wish.cells (q : Wish) : List Value := ocells q.k q.amt q.c q.id
structure Wish.Ok (q : Wish) : Prop where
  amt : Word q.amt
  c : q.c.Ok
  id : Word q.id
theorem wish0_ok : wish0.Ok := ⟨⟨by decide, by decide⟩, cnd0_ok, ⟨by decide, by decide⟩⟩
theorem Wish.Ok.len {q : Wish} (h : q.Ok) : q.cells.length = 39 := ocells_length _ _ _ _ h.c
theorem Wish.Ok.size {q : Wish} (h : q.Ok) : q.cells.toArray.size = 39 := ocells_size _ _ _ _ h.c
/-- Wishes that lie behind one another. -/
structure ORow (w : World) (A : Option Addr) (os : List Wish) : Prop where
  at_ : os = [] ∨ ∃ b o, A = some ⟨b, o, none⟩ ∧ b < w.heap.size ∧ ∀ i, i < os.length → w.rangeAt b (o + i * 39) (os.getD i wish0).cells
  ok : ∀ q ∈ os, q.Ok
theorem ORow.get {w : World} {A : Option Addr} {os : List Wish} (h : ORow w A os) {i : Nat} (hi : i < os.length) : ∃ b o q, A = some ⟨b, o, none⟩ ∧ b < w.heap.size ∧ os.getD i wish0 = q ∧ w.rangeAt b (o + i * 39) q.cells ∧ q.Ok := by
  rcases h.at_ with h1 | ⟨b, o, ha, hb, hx⟩
  · subst h1; simp at hi
  · refine ⟨b, o, _, ha, hb, rfl, hx i hi, ?_⟩
    rw [show os.getD i wish0 = os[i] by simp [List.getD, hi]]
    exact h.ok _ (List.getElem_mem hi)
open Go.ChangeShapes Go.WideShapes Go.ChangeAt Go.Deep
section
variable {H : Type} {enc : TypeId × Value → H} {W : World} {base : Nat} {spare : Nat → Bool} {held : Bool}
theorem wishes_of {a : Option Addr} {n : Nat} (h : FlatRow enc Try.prog W base spare held a 39 n LO) : ∃ l : List Wish, l.length = n ∧ ORow W a l := by
  have each : ∀ i, ∃ q : Wish, q.Ok ∧ (i < n → ∃ b off, a = some ⟨b, off, none⟩ ∧ b < W.heap.size ∧ ∀ (j : Nat) (v : Value), q.cells[j]? = some v → W.cell? ⟨b, off + i * 39 + j, none⟩ = some v) := by
    intro i
    by_cases hi : i < n
    · obtain ⟨b, off, ha, hb, cs, hc, hp⟩ := h.row hi
      obtain ⟨k, am, c, id, hok, hw, hid, hcs⟩ := op_parts (cs := cs) hp
      exact ⟨⟨k, am, c, id⟩, ⟨hw, hok, hid⟩, fun _ => ⟨b, off, ha, hb, fun j v hv => hc j v (hcs j v hv)⟩⟩
    · exact ⟨wish0, wish0_ok, fun h => absurd h hi⟩
  obtain ⟨f, hf⟩ := Classical.axiomOfChoice each
  refine ⟨(List.range n).map f, by simp, ?_, fun e he => ?_⟩
  · rcases h.1 with h0 | ⟨b, off, ha, hb, _⟩
    · subst h0; exact .inl rfl
    · refine .inr ⟨b, off, ha, hb, fun i hi => ?_⟩
      have hi' : i < n := by simpa using hi
      obtain ⟨b', off', ha', _, h1⟩ := (hf i).2 hi'
      rw [ha] at ha'
      injection ha' with ha'
      injection ha' with e1 e2
      subst e1 e2
      simp only [List.getD, List.getElem?_map, List.getElem?_range hi', Option.map_some, Option.getD_some]
      exact h1
  · obtain ⟨i, _, rfl⟩ := List.mem_map.1 he
    exact (hf i).1
set_option maxRecDepth 100000 in
theorem openOps {v : Value} {d : DataW H} {p : List MemPlace} {b0 : Nat} (hv : Value.okWide Try.prog W .any b0 68 v) (h : DataW.Trod enc Try.prog W base spare held 68 v d p) :
    ∃ (A : Option Addr) (n cap : Nat) (os : List Wish), v = .slice A n cap ∧ os.length = n ∧ ORow W A os ∧ n ≤ maxLen := by
  obtain ⟨A, n, cap, rfl⟩ : ∃ A n cap, v = .slice A n cap := by
    simp only [Value.okWide, Try.underlying68] at hv
    simp only [Cell.okWide] at hv
    rw [Try.underlying68] at hv
    split at hv <;> first | exact ⟨_, _, _, rfl⟩ | (simp_all; done) | skip
    simp only [Cell.ok] at hv
    rw [Try.underlying68] at hv
    split at hv <;> first | exact ⟨_, _, _, rfl⟩ | (simp_all; done) | skip
  have f0 := open_flat 4 39 LO Try.underlying68 (by kernel_rfl) (by decide) flat55 ⟨3, .i64, by simp [LO], Try.underlying3⟩ h
  obtain ⟨l, hl, hR⟩ := wishes_of f0
  exact ⟨A, n, cap, l, rfl, hl, hR, f0.2.1⟩
end
end Go.Proofs.Ytkiifjkcpangfaa
