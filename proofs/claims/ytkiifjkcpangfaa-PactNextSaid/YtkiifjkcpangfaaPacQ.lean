/-
  A payment laid.
-/
import Derived.Test.YtkiifjkcpangfaaPacP
namespace Go.Proofs.Ytkiifjkcpangfaa
open Go.RowKit
set_option linter.unusedVariables false

def St.add (s : St) (c : Cnd) : St := ⟨s.ch, s.rd, s.m0, s.m1, s.t0, s.t1, s.cs ++ [c]⟩
def lockE (s : St) (p0 p1 side : Int) (c : Cnd) : Int :=
  if c.side ≠ side then 1 else if 0 ≤ findV c.id s.cs then 7 else if 8 ≤ s.cs.length then 4 else spE (freeF s p0 p1 side) c.amt
theorem lockE_arg {s : St} {p0 p1 side : Int} {c : Cnd} (h : c.side ≠ side) : lockE s p0 p1 side c = 1 := by unfold lockE; rw [if_pos h]
theorem lockE_twice {s : St} {p0 p1 side : Int} {c : Cnd} (h : c.side = side) (h1 : 0 ≤ findV c.id s.cs) : lockE s p0 p1 side c = 7 := by unfold lockE; rw [if_neg (by simpa using h), if_pos h1]
theorem lockE_full {s : St} {p0 p1 side : Int} {c : Cnd} (h : c.side = side) (h1 : ¬ 0 ≤ findV c.id s.cs) (h2 : 8 ≤ s.cs.length) : lockE s p0 p1 side c = 4 := by unfold lockE; rw [if_neg (by simpa using h), if_neg h1, if_pos h2]
theorem lockE_sp {s : St} {p0 p1 side : Int} {c : Cnd} (h : c.side = side) (h1 : ¬ 0 ≤ findV c.id s.cs) (h2 : ¬ 8 ≤ s.cs.length) : lockE s p0 p1 side c = spE (freeF s p0 p1 side) c.amt := by unfold lockE; rw [if_neg (by simpa using h), if_neg h1, if_neg h2]
def LockPost (B g : Nat) (s : St) (c : Cnd) (E : Int) (w : World) (e : Ending) (w' : World) : Prop := e = .returned (.int .i64 E) ∧ Below B w w' ∧ (E = 0 → ∃ a m cap, StAt w' B g (s.add c) a m cap)
theorem St.Ok.eta {s : St} (h : s.Ok) : St.Ok ⟨s.ch, s.rd, s.m0, s.m1, s.t0, s.t1, s.cs⟩ := h

set_option maxRecDepth 100000 in
set_option maxHeartbeats 4000000 in
theorem lock_any (B g n cap : Nat) (s : St) (a : Option Addr) (p0 p1 side : Int) (c : Cnd) (w : World) (hS : StAt w B g s a n cap) (hn : n ≤ 1000) (hok : c.Ok) (hp0 : Word p0) (hp1 : Word p1) (hO : s.Ok) (hBw : B ≤ w.heap.size) (hBg : B ≤ g) :
    Calls Try.prog 49 #[.pointer (some ⟨g, 0, none⟩), .agg #[.int .u64 p0, .int .u64 p1], .int .i64 side, .agg c.cells.toArray] w (LockPost B g s c (lockE s p0 p1 side c) w) := by
  have HB : Hid (Below w.heap.size w ((w.alloc (.cells #[.int .u64 p0, .int .u64 p1] 24)).alloc (.cells c.cells.toArray 60))) := Lib.hid (((Below.refl _ _).alloc (Nat.le_refl _) _).alloc (by simp) _)
  have HS := Lib.hid (hS.keep HB.out)
  have HK : Hid (Blk ((w.alloc (.cells #[.int .u64 p0, .int .u64 p1] 24)).alloc (.cells c.cells.toArray 60)) (w.heap.size + 1) 60 c.cells) := Lib.hid (Blk.mk_ (by simp))
  have HP : Hid (Blk ((w.alloc (.cells #[.int .u64 p0, .int .u64 p1] 24)).alloc (.cells c.cells.toArray 60)) w.heap.size 24 [.int .u64 p0, .int .u64 p1]) := Lib.hid ((Blk.mk_ rfl).alloc _)
  have HOK := Lib.hid hok
  have HO := Lib.hid hO
  have HBW := Lib.hid hBw
  have HBG := Lib.hid hBg
  have HGN : Hid (g < w.heap.size) := Lib.hid hS.blk.lt
  have HRN : Hid (∀ q, (Value.slice a n cap).ownBlock = some q → q < w.heap.size) := Lib.hid (fun q hq => (hS.own.lt q hq).2)
  have HLEN := Lib.hid hS.len
  have HOKS := Lib.hid hS.ok
  clear hS hok hO hBw hBg
  go_enter Try.func49, Try.ntmps49
  go_upto_region 1 with fail
  generalize ((w.alloc (.cells #[.int .u64 p0, .int .u64 p1] 24)).alloc (.cells c.cells.toArray 60)) = V at HB HS HK HP ⊢
  obtain ⟨gk, hgk⟩ : ∃ q, w.heap.size + 1 = q := ⟨_, rfl⟩
  obtain ⟨gp, hgp⟩ : ∃ q, w.heap.size = q := ⟨_, rfl⟩
  have HGK : Hid (gk = w.heap.size + 1 ∧ gp = w.heap.size) := Lib.hid ⟨hgk.symm, hgp.symm⟩
  rw [hgk] at HK ⊢
  rw [hgp] at HP ⊢
  clear hgk hgp
  have c0 := HK.out.cell 0
  have c1 := HK.out.cell 1
  have c2 := HK.out.cell 2
  rw [Cnd.c0] at c0
  rw [Cnd.c1] at c1
  rw [Cnd.c2] at c2
  obtain ⟨y, hy⟩ : ∃ y, c.side = y := ⟨_, rfl⟩
  rw [hy] at c1
  have HY := Lib.hid hy
  clear hy
  by_cases hsd : y = side
  · have b0 : (y != side) = false := by simp [hsd]
    have HSD : Hid (c.side = side) := Lib.hid (HY.out.trans hsd)
    clear hsd
    go_upto_region 3 with fail
    clear c0 c1 c2 b0
    have BB : Hid (Below B w V) := Lib.hid (HB.out.mono HBW.out)
    have S := HS
    have K := HK
    have PP := HP
    clear HB HS HK HP
    obtain ⟨fv, hfv⟩ : ∃ x, findV c.id s.cs = x := ⟨_, rfl⟩
    have HF : Hid (∀ X, StAt X B g s a n cap → Calls Try.prog 17 #[.agg #[.int .u32 s.ch, .int .u64 s.rd, .int .u64 s.m0, .int .u64 s.m1, .int .u64 s.t0, .int .u64 s.t1, .slice a n cap], .int .u64 c.id] X fun e w' => e = .returned (.int .i64 fv) ∧ Below X.heap.size X w') := Lib.hid (fun X hX => by
      have := find_any s.ch s.rd s.m0 s.m1 s.t0 s.t1 a n cap s.cs c.id X hX.row hX.len hn
      rwa [hfv] at this)
    have HFV := Lib.hid hfv
    clear hfv
    obtain ⟨D, hD⟩ : ∃ D, decide (0 ≤ fv) = D := ⟨_, rfl⟩
    have HDD := Lib.hid hD
    clear hD
    have hBz : Below V.heap.size V V.drew := below_drewN (Below.refl _ _) 1
    have BBX0 : Hid (Below B w V.drew) := Lib.hid (BB.out.trans (hBz.mono (Nat.le_trans HBW.out BB.out.size)))
    have SX0 : Hid (StAt V.drew B g s a n cap) := Lib.hid (S.out.keep hBz)
    have KX0 : Hid (Blk V.drew gk 60 c.cells) := Lib.hid (K.out.below hBz K.out.lt)
    have PPX0 : Hid (Blk V.drew gp 24 [.int .u64 p0, .int .u64 p1]) := Lib.hid (PP.out.below hBz PP.out.lt)
    clear hBz
    refine wp_region_held_drew (S := fun w' => StAt w' B g s a n cap ∧ Blk w' gk 60 c.cells) (by kernel_rfl) (⟨SX0.out, KX0.out⟩) (fun hHeld => ?_)
    generalize V.drew = X0 at hHeld BBX0 SX0 KX0 PPX0 ⊢
    refine wpAnyH_take (i := 0) (v := .pointer (some ⟨g, 0, none⟩)) rfl (by kernel_rfl) (by kernel_rfl) (by kernel_rfl) (fun _ _ _ h => h) (Or.inl ⟨by rfl, fun w _ => by rfl⟩) hHeld ?_
    show wpAnyH _ _ _ _ _ _ _ (Act.put _ (some 14) _) _
    simp only [Act.put, List.setIfInBounds_toArray, List.set_cons_zero, List.set_cons_succ]
    refine wpAnyH_take (i := 1) (v := .pointer (some ⟨g, 0, none⟩)) rfl (by kernel_rfl) (by kernel_rfl) (by kernel_rfl) (fun _ _ _ h => h) (Or.inl ⟨by rfl, by intro w' h; go_simp⟩) hHeld ?_
    show wpAnyH _ _ _ _ _ _ _ (Act.put _ (some 15) _) _
    simp only [Act.put, List.setIfInBounds_toArray, List.set_cons_zero, List.set_cons_succ]
    refine wpAnyH_take (i := 2) (v := (.agg #[.int .u32 s.ch, .int .u64 s.rd, .int .u64 s.m0, .int .u64 s.m1, .int .u64 s.t0, .int .u64 s.t1, .slice a n cap])) rfl (by kernel_rfl) (by kernel_rfl) (by kernel_rfl) (fun _ _ _ h => h) (yieldsIf_load_mid (by rfl) 31 (.tmp 15) rfl g 0 rfl [.int .u32 s.ch, .int .u64 s.rd, .int .u64 s.m0, .int .u64 s.m1, .int .u64 s.t0, .int .u64 s.t1, .slice a n cap] _ (fun w h => Blk.all h.1.blk) Try.underlying31 rfl info31) hHeld ?_
    show wpAnyH _ _ _ _ _ _ _ (Act.put _ (some 16) _) _
    simp only [Act.put, List.setIfInBounds_toArray, List.set_cons_zero, List.set_cons_succ]
    refine wpAnyH_take (i := 3) (v := .pointer (some ⟨gk, 0, none⟩)) rfl (by kernel_rfl) (by kernel_rfl) (by kernel_rfl) (fun _ _ _ h => h) (Or.inl ⟨by rfl, by intro w' h; go_simp⟩) hHeld ?_
    show wpAnyH _ _ _ _ _ _ _ (Act.put _ (some 17) _) _
    simp only [Act.put, List.setIfInBounds_toArray, List.set_cons_zero, List.set_cons_succ]
    refine wpAnyH_take (i := 4) (v := .int .u64 c.id) rfl (by kernel_rfl) (by kernel_rfl) (by kernel_rfl) (fun _ _ _ h => h) (Or.inl ⟨by rfl, by intro w' h; have q := Blk.cell h.2 0; rw [Cnd.c0] at q; go_simp⟩) hHeld ?_
    show wpAnyH _ _ _ _ _ _ _ (Act.put _ (some 18) _) _
    simp only [Act.put, List.setIfInBounds_toArray, List.set_cons_zero, List.set_cons_succ]
    refine wpAnyH_ready (rs := [5]) (by kernel_rfl) (by simp) ?_
    refine AllReadyH.cons rfl (fun K hK => ?_) AllReadyH.nil
    refine step_call rfl 17 #[.tmp 16, .tmp 18] #[31, 23] rfl #[(.agg #[.int .u32 s.ch, .int .u64 s.rd, .int .u64 s.m0, .int .u64 s.m1, .int .u64 s.t0, .int .u64 s.t1, .slice a n cap]), .int .u64 c.id] (by simp [Act.eval]) (by go_simp) (HF.out X0 SX0.out) ?_
    rintro e X1 ⟨rfl, hB⟩
    have BBX1 : Hid (Below B w X1) := Lib.hid (BBX0.out.trans (hB.mono (Nat.le_trans HBW.out BBX0.out.size)))
    have SX1 : Hid (StAt X1 B g s a n cap) := Lib.hid (SX0.out.keep hB)
    have KX1 : Hid (Blk X1 gk 60 c.cells) := Lib.hid (KX0.out.below hB KX0.out.lt)
    have PPX1 : Hid (Blk X1 gp 24 [.int .u64 p0, .int .u64 p1]) := Lib.hid (PPX0.out.below hB PPX0.out.lt)
    clear BBX0 SX0 KX0 PPX0 hB
    refine ⟨_, rfl, hK.out _ _ (⟨SX1.out, KX1.out⟩) (fun hHeld => ?_)⟩
    clear hK K
    show wpAnyH _ _ _ _ _ _ _ (Act.put _ (some 19) _) _
    simp only [Act.put, List.setIfInBounds_toArray, List.set_cons_zero, List.set_cons_succ]
    refine wpAnyH_take (i := 6) (v := .bool D) rfl (by kernel_rfl) (by kernel_rfl) (by kernel_rfl) (fun _ _ _ h => h) (Or.inl ⟨by rfl, by intro w' h; have hD := HDD.out; go_simp⟩) hHeld ?_
    show wpAnyH _ _ _ _ _ _ _ (Act.put _ (some 20) _) _
    simp only [Act.put, List.setIfInBounds_toArray, List.set_cons_zero, List.set_cons_succ]
    refine wpAnyH_done (by kernel_rfl) ?_ _
    clear hHeld
    obtain rfl | rfl : D = true ∨ D = false := by cases D <;> simp
    · have hf : 0 ≤ fv := of_decide_eq_true HDD.out
      have HT : Hid (lockE s p0 p1 side c = 7) := Lib.hid (lockE_twice HSD.out (by rw [HFV.out]; exact hf))
      clear hf
      go_wp2
      go_ret
      exact ⟨by rw [HT.out]; rfl, BBX1.out, fun h => by rw [HT.out] at h; cases h⟩
    · have hf : ¬ 0 ≤ fv := of_decide_eq_false HDD.out
      have HFN : Hid (¬ 0 ≤ findV c.id s.cs) := Lib.hid (by rw [HFV.out]; exact hf)
      clear hf
      have KK := Lib.hid SX1.out.blk
      have k0 := KK.out.cell 0
      have k1 := KK.out.cell 1
      have k2 := KK.out.cell 2
      have k3 := KK.out.cell 3
      have k4 := KK.out.cell 4
      have k5 := KK.out.cell 5
      have k6 := KK.out.cell 6
      simp only [List.getElem?_cons_zero, List.getElem?_cons_succ] at k0 k1 k2 k3 k4 k5 k6
      have q0 := PPX1.out.cell 0
      have q1 := PPX1.out.cell 1
      simp only [List.getElem?_cons_zero, List.getElem?_cons_succ] at q0 q1
      have c2 := KX1.out.cell 2
      rw [Cnd.c2] at c2
      by_cases h8 : 8 ≤ n
      · have d1 : decide ((8 : Int) ≤ (n : Int)) = true := decide_eq_true (by omega)
        have HT : Hid (lockE s p0 p1 side c = 4) := Lib.hid (lockE_full HSD.out HFN.out (by rw [HLEN.out]; exact h8))
        go_wp2
        go_ret
        exact ⟨by rw [HT.out]; rfl, BBX1.out, fun h => by rw [HT.out] at h; cases h⟩
      · have d1 : decide ((8 : Int) ≤ (n : Int)) = false := decide_eq_false (by omega)
        have HL8 : Hid (lockE s p0 p1 side c = spE (freeF s p0 p1 side) c.amt) := Lib.hid (lockE_sp HSD.out HFN.out (by rw [HLEN.out]; exact h8))
        go_wp2_with fail
        refine (afford_any s.ch s.rd s.m0 s.m1 s.t0 s.t1 a n cap s.cs g p0 p1 side c.amt X1 SX1.out.blk SX1.out.row SX1.out.len hn hp0 hp1 HO.out.eta HOK.out.amt).mono ?_
        rintro e Z ⟨rfl, hB⟩
        have BB := Lib.hid (BBX1.out.trans (hB.mono (Nat.le_trans HBW.out BBX1.out.size)))
        have S := Lib.hid (SX1.out.keep hB)
        have K := Lib.hid (KX1.out.below hB KX1.out.lt)
        clear hB BBX1 SX1 KX1 PPX1 KK k0 k1 k2 k3 k4 k5 k6 q0 q1 c2
        rw [show (⟨s.ch, s.rd, s.m0, s.m1, s.t0, s.t1, s.cs⟩ : St) = s from rfl]
        obtain ⟨E, hE⟩ : ∃ x, spE (freeF s p0 p1 side) c.amt = x := ⟨_, rfl⟩
        rw [hE]
        have HE := Lib.hid hE
        clear hE
        by_cases h0 : E = 0
        · subst h0
          have HT : Hid (lockE s p0 p1 side c = 0) := Lib.hid (by rw [HL8.out, HE.out])
          go_upto_region 10 with fail
          have OWN := Lib.hid S.out.own
          have SB := Lib.hid S.out.blk
          clear S
          have hzc : (Try.prog.info? 60).map (·.size) = some c.cells.length := by rw [HOK.out.len]; exact info60
          obtain ⟨i0, hi, hz0, hz1, hz2⟩ := info_parts zinfo60
          have hBz : Below Z.heap.size Z Z.drew := below_drewN (Below.refl _ _) 1
          have BBT0 : Hid (Below B w Z.drew) := Lib.hid (BB.out.trans (hBz.mono (Nat.le_trans HBW.out BB.out.size)))
          have SBT0 : Hid (Blk Z.drew g 31 [.int .u32 s.ch, .int .u64 s.rd, .int .u64 s.m0, .int .u64 s.m1, .int .u64 s.t0, .int .u64 s.t1, .slice a n cap]) := Lib.hid (SB.out.below hBz SB.out.lt)
          have OWNT0 : Hid (Z.drew.ownsRow B 60 36 (.slice a n cap) n (cflat s.cs)) := Lib.hid (own_keep OWN.out hBz)
          have KT0 : Hid (Blk Z.drew gk 60 c.cells) := Lib.hid (K.out.below hBz K.out.lt)
          clear hBz
          refine wp_region_held_drew (S := fun w' => Blk w' gk 60 c.cells) (by kernel_rfl) (KT0.out) (fun hHeld => ?_)
          generalize Z.drew = T0 at hHeld BBT0 SBT0 OWNT0 KT0 ⊢
          refine wpAnyH_take (i := 0) (v := .pointer (some ⟨g, 0, none⟩)) rfl (by kernel_rfl) (by kernel_rfl) (by kernel_rfl) (fun _ _ _ h => h) (Or.inl ⟨by rfl, fun w _ => by rfl⟩) hHeld ?_
          show wpAnyH _ _ _ _ _ _ _ (Act.put _ (some 36) _) _
          simp only [Act.put, List.setIfInBounds_toArray, List.set_cons_zero, List.set_cons_succ]
          refine wpAnyH_take (i := 1) (v := .pointer (some ⟨g, 0, none⟩)) rfl (by kernel_rfl) (by kernel_rfl) (by kernel_rfl) (fun _ _ _ h => h) (Or.inl ⟨by rfl, fun w _ => by rfl⟩) hHeld ?_
          show wpAnyH _ _ _ _ _ _ _ (Act.put _ (some 37) _) _
          simp only [Act.put, List.setIfInBounds_toArray, List.set_cons_zero, List.set_cons_succ]
          refine wpAnyH_take (i := 2) (v := .pointer (some ⟨g, 0, none⟩)) rfl (by kernel_rfl) (by kernel_rfl) (by kernel_rfl) (fun _ _ _ h => h) (Or.inl ⟨by rfl, by intro w' h; go_simp⟩) hHeld ?_
          show wpAnyH _ _ _ _ _ _ _ (Act.put _ (some 38) _) _
          simp only [Act.put, List.setIfInBounds_toArray, List.set_cons_zero, List.set_cons_succ]
          refine wpAnyH_take (i := 3) (v := .pointer (some ⟨g, 6, none⟩)) rfl (by kernel_rfl) (by kernel_rfl) (by kernel_rfl) (fun _ _ _ h => h) (Or.inl ⟨by rfl, by intro w' h; go_simp⟩) hHeld ?_
          show wpAnyH _ _ _ _ _ _ _ (Act.put _ (some 39) _) _
          simp only [Act.put, List.setIfInBounds_toArray, List.set_cons_zero, List.set_cons_succ]
          refine wpAnyH_take (i := 5) (v := .agg c.cells.toArray) rfl (by kernel_rfl) (by kernel_rfl) (by kernel_rfl) (fun _ _ _ h => h) (yieldsIf_load_mid (by rfl) 60 (.tmp 7) rfl gk 0 rfl c.cells _ (fun w h => Blk.all h) Try.underlying60 rfl hzc) hHeld ?_
          show wpAnyH _ _ _ _ _ _ _ (Act.put _ (some 41) _) _
          simp only [Act.put, List.setIfInBounds_toArray, List.set_cons_zero, List.set_cons_succ]
          refine wpAnyH_ready (rs := [4, 6]) (by kernel_rfl) (by simp) ?_
          refine AllReadyH.cons rfl (fun K hK => ?_) (AllReadyH.cons rfl (fun K hK => ?_) AllReadyH.nil)
          · refine step_ld rfl 29 (.tmp 39) rfl g 6 rfl (.slice a n cap) (run_load_slice 29 (by decide) T0 g 6 _ _ _ 31 _ SBT0.out _ rfl rfl) ?_
            refine hK.out _ _ (KT0.out) (fun hHeld => ?_)
            clear hK K
            show wpAnyH _ _ _ _ _ _ _ (Act.put _ (some 40) _) _
            simp only [Act.put, List.setIfInBounds_toArray, List.set_cons_zero, List.set_cons_succ]
            refine wpAnyH_ready (rs := [6]) (by kernel_rfl) (by simp) ?_
            refine AllReadyH.cons rfl (fun K hK => ?_) AllReadyH.nil
            refine step_lay rfl 29 1 #[(0, .tmp 41)] rfl #[(0, .agg c.cells.toArray)] (by simp [Act.eval]) _ _ (lay29 c HOK.out T0) ?_
            have hB : Below T0.heap.size T0 (T0.alloc (.cells c.cells.toArray 60)) := (Below.refl _ _).alloc (Nat.le_refl _) _
            have hL := Blk.new T0 60 c.cells
            generalize T0.alloc (.cells c.cells.toArray 60) = T2 at hB hL ⊢
            obtain ⟨gl, hgl⟩ : ∃ g, T0.heap.size = g := ⟨_, rfl⟩
            rw [hgl] at hL ⊢
            clear hgl
            have BBT2 : Hid (Below B w T2) := Lib.hid (BBT0.out.trans (hB.mono (Nat.le_trans HBW.out BBT0.out.size)))
            have SBT2 : Hid (Blk T2 g 31 [.int .u32 s.ch, .int .u64 s.rd, .int .u64 s.m0, .int .u64 s.m1, .int .u64 s.t0, .int .u64 s.t1, .slice a n cap]) := Lib.hid (SBT0.out.below hB SBT0.out.lt)
            have OWNT2 : Hid (T2.ownsRow B 60 36 (.slice a n cap) n (cflat s.cs)) := Lib.hid (own_keep OWNT0.out hB)
            have KT2 : Hid (Blk T2 gk 60 c.cells) := Lib.hid (KT0.out.below hB KT0.out.lt)
            have LT2 : Hid (Blk T2 gl 60 c.cells) := Lib.hid (hL)
            clear BBT0 SBT0 OWNT0 KT0 hB hL
            refine hK.out _ _ (KT2.out) (fun hHeld => ?_)
            clear hK K
            show wpAnyH _ _ _ _ _ _ _ (Act.put _ (some 42) _) _
            simp only [Act.put, List.setIfInBounds_toArray, List.set_cons_zero, List.set_cons_succ]
            refine wpAnyH_ready (rs := [7]) (by kernel_rfl) (by simp) ?_
            refine AllReadyH.cons rfl (fun K hK => ?_) AllReadyH.nil
            refine step_own rfl (.tmp 40) (.tmp 42) 29 rfl B 60 i0 (.agg cz) 36 64 Try.underlying29 hi hz0 hz1 hz2 rfl (by decide) (.slice a n cap) n _ rfl OWNT2.out ⟨gl, 0, none⟩ 1 1 c.cells rfl (by rw [HOK.out.len]) (news_of LT2.out) c.one (by unfold maxLen; omega) (by omega) (Nat.le_trans HBW.out BBT2.out.size) ?_
            intro tv2 T3 hown hO _ _
            have hSO := own_ne OWNT2.out SBT2.out (by decide)
            have hKO : some gk ≠ (Value.slice a n cap).ownBlock := fun e => by have h1 := HRN.out gk e.symm; have h2 := HGK.out.1; omega
            have hKB : ∀ q, (Value.slice a n cap).ownBlock = some q → B ≤ q := fun q hq => (OWNT2.out.lt q hq).1
            have BBT3 : Hid (Below B w T3) := Lib.hid (BBT2.out.grown hO (Nat.le_trans HBW.out BBT2.out.size) hKB)
            have SBT3 : Hid (Blk T3 g 31 [.int .u32 s.ch, .int .u64 s.rd, .int .u64 s.m0, .int .u64 s.m1, .int .u64 s.t0, .int .u64 s.t1, .slice a n cap]) := Lib.hid (SBT2.out.grown hO hSO)
            have KT3 : Hid (Blk T3 gk 60 c.cells) := Lib.hid (KT2.out.grown hO hKO)
            have OWNT3 : Hid (T3.ownsRow B 60 36 tv2 (n + 1) (cflat s.cs ++ c.cells)) := Lib.hid (hown)
            clear BBT2 SBT2 KT2 hO hown hSO hKO hKB OWNT2 LT2
            refine hK.out _ _ (KT3.out) (fun hHeld => ?_)
            clear hK K
            show wpAnyH _ _ _ _ _ _ _ (Act.put _ (some 43) _) _
            simp only [Act.put, List.setIfInBounds_toArray, List.set_cons_zero, List.set_cons_succ]
            refine wpAnyH_take (i := 8) (v := .pointer (some ⟨g, 0, none⟩)) rfl (by kernel_rfl) (by kernel_rfl) (by kernel_rfl) (fun _ _ _ h => h) (Or.inl ⟨by rfl, by intro w' h; go_simp⟩) hHeld ?_
            show wpAnyH _ _ _ _ _ _ _ (Act.put _ (some 44) _) _
            simp only [Act.put, List.setIfInBounds_toArray, List.set_cons_zero, List.set_cons_succ]
            refine wpAnyH_take (i := 9) (v := .pointer (some ⟨g, 6, none⟩)) rfl (by kernel_rfl) (by kernel_rfl) (by kernel_rfl) (fun _ _ _ h => h) (Or.inl ⟨by rfl, by intro w' h; go_simp⟩) hHeld ?_
            show wpAnyH _ _ _ _ _ _ _ (Act.put _ (some 45) _) _
            simp only [Act.put, List.setIfInBounds_toArray, List.set_cons_zero, List.set_cons_succ]
            refine wpAnyH_ready (rs := [10]) (by kernel_rfl) (by simp) ?_
            refine AllReadyH.cons rfl (fun K hK => ?_) AllReadyH.nil
            obtain ⟨a2, c2, htv2⟩ := own_slice OWNT3.out
            refine step_cell rfl 29 (.tmp 45) (.tmp 43) rfl g 6 rfl tv2 rfl 31 _ SBT3.out (run_store_slice 29 (by decide) T3 g 6 a2 _ c2 31 _ SBT3.out (by simp) tv2 htv2) ?_
            intro T4 hSb hO
            have hKO : some gk ≠ some g := fun e => by injection e with e; have := HGN.out; have := HGK.out.1; omega
            have hKB : ∀ q, some g = some q → B ≤ q := fun q hq => by injection hq with hq; have := HBG.out; omega
            have hTO : tv2.ownBlock = none ∨ tv2.ownBlock ≠ some g := .inr (fun e => own_ne OWNT3.out SBT3.out (by decide) e.symm)
            have BBT4 : Hid (Below B w T4) := Lib.hid (BBT3.out.grown hO (Nat.le_trans HBW.out BBT3.out.size) hKB)
            have KT4 : Hid (Blk T4 gk 60 c.cells) := Lib.hid (KT3.out.grown hO hKO)
            have OWNT4 : Hid (T4.ownsRow B 60 36 tv2 (n + 1) (cflat s.cs ++ c.cells)) := Lib.hid (OWNT3.out.kept hO hTO)
            have SBT4 : Hid (Blk T4 g 31 [.int .u32 s.ch, .int .u64 s.rd, .int .u64 s.m0, .int .u64 s.m1, .int .u64 s.t0, .int .u64 s.t1, tv2]) := Lib.hid (hSb)
            clear BBT3 KT3 OWNT3 hO hSb hKO hKB hTO SBT3
            refine hK.out _ _ (KT4.out) (fun hHeld => ?_)
            clear hK K
            show wpAnyH _ _ _ _ _ _ _ (Act.put _ none _) _
            simp only [Act.put]
            refine wpAnyH_done (by kernel_rfl) ?_ _
            clear hHeld
            subst htv2
            go_wp2
            go_ret
            exact ⟨by rw [HT.out]; rfl, BBT4.out, fun _ => ⟨a2, n + 1, c2, SBT4.out, by show T4.ownsRow B 60 36 (.slice a2 (n + 1) c2) (n + 1) (cflat (s.cs ++ [c])); rw [cflat_append]; have h := OWNT4.out; rwa [show cflat [c] = c.cells by simp [cflat]], fun d hd => by rcases List.mem_append.1 hd with h | h; exact HOKS.out d h; simp at h; rw [h]; exact HOK.out, by show (s.cs ++ [c]).length = n + 1; rw [List.length_append, HLEN.out]; rfl⟩⟩
          · refine step_lay rfl 29 1 #[(0, .tmp 41)] rfl #[(0, .agg c.cells.toArray)] (by simp [Act.eval]) _ _ (lay29 c HOK.out T0) ?_
            have hB : Below T0.heap.size T0 (T0.alloc (.cells c.cells.toArray 60)) := (Below.refl _ _).alloc (Nat.le_refl _) _
            have hL := Blk.new T0 60 c.cells
            generalize T0.alloc (.cells c.cells.toArray 60) = T1 at hB hL ⊢
            obtain ⟨gl, hgl⟩ : ∃ g, T0.heap.size = g := ⟨_, rfl⟩
            rw [hgl] at hL ⊢
            clear hgl
            have BBT1 : Hid (Below B w T1) := Lib.hid (BBT0.out.trans (hB.mono (Nat.le_trans HBW.out BBT0.out.size)))
            have SBT1 : Hid (Blk T1 g 31 [.int .u32 s.ch, .int .u64 s.rd, .int .u64 s.m0, .int .u64 s.m1, .int .u64 s.t0, .int .u64 s.t1, .slice a n cap]) := Lib.hid (SBT0.out.below hB SBT0.out.lt)
            have OWNT1 : Hid (T1.ownsRow B 60 36 (.slice a n cap) n (cflat s.cs)) := Lib.hid (own_keep OWNT0.out hB)
            have KT1 : Hid (Blk T1 gk 60 c.cells) := Lib.hid (KT0.out.below hB KT0.out.lt)
            have LT1 : Hid (Blk T1 gl 60 c.cells) := Lib.hid (hL)
            clear BBT0 SBT0 OWNT0 KT0 hB hL
            refine hK.out _ _ (KT1.out) (fun hHeld => ?_)
            clear hK K
            show wpAnyH _ _ _ _ _ _ _ (Act.put _ (some 42) _) _
            simp only [Act.put, List.setIfInBounds_toArray, List.set_cons_zero, List.set_cons_succ]
            refine wpAnyH_ready (rs := [4]) (by kernel_rfl) (by simp) ?_
            refine AllReadyH.cons rfl (fun K hK => ?_) AllReadyH.nil
            refine step_ld rfl 29 (.tmp 39) rfl g 6 rfl (.slice a n cap) (run_load_slice 29 (by decide) T1 g 6 _ _ _ 31 _ SBT1.out _ rfl rfl) ?_
            refine hK.out _ _ (KT1.out) (fun hHeld => ?_)
            clear hK K
            show wpAnyH _ _ _ _ _ _ _ (Act.put _ (some 40) _) _
            simp only [Act.put, List.setIfInBounds_toArray, List.set_cons_zero, List.set_cons_succ]
            refine wpAnyH_ready (rs := [7]) (by kernel_rfl) (by simp) ?_
            refine AllReadyH.cons rfl (fun K hK => ?_) AllReadyH.nil
            refine step_own rfl (.tmp 40) (.tmp 42) 29 rfl B 60 i0 (.agg cz) 36 64 Try.underlying29 hi hz0 hz1 hz2 rfl (by decide) (.slice a n cap) n _ rfl OWNT1.out ⟨gl, 0, none⟩ 1 1 c.cells rfl (by rw [HOK.out.len]) (news_of LT1.out) c.one (by unfold maxLen; omega) (by omega) (Nat.le_trans HBW.out BBT1.out.size) ?_
            intro tv2 T3 hown hO _ _
            have hSO := own_ne OWNT1.out SBT1.out (by decide)
            have hKO : some gk ≠ (Value.slice a n cap).ownBlock := fun e => by have h1 := HRN.out gk e.symm; have h2 := HGK.out.1; omega
            have hKB : ∀ q, (Value.slice a n cap).ownBlock = some q → B ≤ q := fun q hq => (OWNT1.out.lt q hq).1
            have BBT3 : Hid (Below B w T3) := Lib.hid (BBT1.out.grown hO (Nat.le_trans HBW.out BBT1.out.size) hKB)
            have SBT3 : Hid (Blk T3 g 31 [.int .u32 s.ch, .int .u64 s.rd, .int .u64 s.m0, .int .u64 s.m1, .int .u64 s.t0, .int .u64 s.t1, .slice a n cap]) := Lib.hid (SBT1.out.grown hO hSO)
            have KT3 : Hid (Blk T3 gk 60 c.cells) := Lib.hid (KT1.out.grown hO hKO)
            have OWNT3 : Hid (T3.ownsRow B 60 36 tv2 (n + 1) (cflat s.cs ++ c.cells)) := Lib.hid (hown)
            clear BBT1 SBT1 KT1 hO hown hSO hKO hKB OWNT1 LT1
            refine hK.out _ _ (KT3.out) (fun hHeld => ?_)
            clear hK K
            show wpAnyH _ _ _ _ _ _ _ (Act.put _ (some 43) _) _
            simp only [Act.put, List.setIfInBounds_toArray, List.set_cons_zero, List.set_cons_succ]
            refine wpAnyH_take (i := 8) (v := .pointer (some ⟨g, 0, none⟩)) rfl (by kernel_rfl) (by kernel_rfl) (by kernel_rfl) (fun _ _ _ h => h) (Or.inl ⟨by rfl, by intro w' h; go_simp⟩) hHeld ?_
            show wpAnyH _ _ _ _ _ _ _ (Act.put _ (some 44) _) _
            simp only [Act.put, List.setIfInBounds_toArray, List.set_cons_zero, List.set_cons_succ]
            refine wpAnyH_take (i := 9) (v := .pointer (some ⟨g, 6, none⟩)) rfl (by kernel_rfl) (by kernel_rfl) (by kernel_rfl) (fun _ _ _ h => h) (Or.inl ⟨by rfl, by intro w' h; go_simp⟩) hHeld ?_
            show wpAnyH _ _ _ _ _ _ _ (Act.put _ (some 45) _) _
            simp only [Act.put, List.setIfInBounds_toArray, List.set_cons_zero, List.set_cons_succ]
            refine wpAnyH_ready (rs := [10]) (by kernel_rfl) (by simp) ?_
            refine AllReadyH.cons rfl (fun K hK => ?_) AllReadyH.nil
            obtain ⟨a2, c2, htv2⟩ := own_slice OWNT3.out
            refine step_cell rfl 29 (.tmp 45) (.tmp 43) rfl g 6 rfl tv2 rfl 31 _ SBT3.out (run_store_slice 29 (by decide) T3 g 6 a2 _ c2 31 _ SBT3.out (by simp) tv2 htv2) ?_
            intro T4 hSb hO
            have hKO : some gk ≠ some g := fun e => by injection e with e; have := HGN.out; have := HGK.out.1; omega
            have hKB : ∀ q, some g = some q → B ≤ q := fun q hq => by injection hq with hq; have := HBG.out; omega
            have hTO : tv2.ownBlock = none ∨ tv2.ownBlock ≠ some g := .inr (fun e => own_ne OWNT3.out SBT3.out (by decide) e.symm)
            have BBT4 : Hid (Below B w T4) := Lib.hid (BBT3.out.grown hO (Nat.le_trans HBW.out BBT3.out.size) hKB)
            have KT4 : Hid (Blk T4 gk 60 c.cells) := Lib.hid (KT3.out.grown hO hKO)
            have OWNT4 : Hid (T4.ownsRow B 60 36 tv2 (n + 1) (cflat s.cs ++ c.cells)) := Lib.hid (OWNT3.out.kept hO hTO)
            have SBT4 : Hid (Blk T4 g 31 [.int .u32 s.ch, .int .u64 s.rd, .int .u64 s.m0, .int .u64 s.m1, .int .u64 s.t0, .int .u64 s.t1, tv2]) := Lib.hid (hSb)
            clear BBT3 KT3 OWNT3 hO hSb hKO hKB hTO SBT3
            refine hK.out _ _ (KT4.out) (fun hHeld => ?_)
            clear hK K
            show wpAnyH _ _ _ _ _ _ _ (Act.put _ none _) _
            simp only [Act.put]
            refine wpAnyH_done (by kernel_rfl) ?_ _
            clear hHeld
            subst htv2
            go_wp2
            go_ret
            exact ⟨by rw [HT.out]; rfl, BBT4.out, fun _ => ⟨a2, n + 1, c2, SBT4.out, by show T4.ownsRow B 60 36 (.slice a2 (n + 1) c2) (n + 1) (cflat (s.cs ++ [c])); rw [cflat_append]; have h := OWNT4.out; rwa [show cflat [c] = c.cells by simp [cflat]], fun d hd => by rcases List.mem_append.1 hd with h | h; exact HOKS.out d h; simp at h; rw [h]; exact HOK.out, by show (s.cs ++ [c]).length = n + 1; rw [List.length_append, HLEN.out]; rfl⟩⟩
        · have b1 : (E != 0) = true := by simpa using h0
          have HT : Hid (lockE s p0 p1 side c = E) := Lib.hid (by rw [HL8.out, HE.out])
          have H0 := Lib.hid h0
          clear h0
          go_wp2
          go_ret
          exact ⟨by rw [HT.out]; rfl, BB.out, fun h => by rw [HT.out] at h; exact absurd h H0.out⟩
  · have b0 : (y != side) = true := by simpa using hsd
    have HT : Hid (lockE s p0 p1 side c = 1) := Lib.hid (lockE_arg (by rw [HY.out]; exact hsd))
    clear hsd
    go_wp2
    go_ret
    exact ⟨by rw [HT.out]; rfl, HB.out.mono HBW.out, fun h => by rw [HT.out] at h; cases h⟩
end Go.Proofs.Ytkiifjkcpangfaa
