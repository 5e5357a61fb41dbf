/-
  A trail's route, with what goes over each channel (priced, 73).
-/
import Derived.Test.YtnnimjaigciedaaPathH
import Derived.Test.YtnnimjaigciedaaM09
import Derived.BigQuiet
namespace Go.Proofs.Ytnnimjaigciedaa
open Go.RowKit
set_option linter.unusedVariables false

theorem info3i' : (Try.prog.info? 3).map (fun i => (i.zero, i.size, i.bytes)) = some (some (.int .i64 0), 1, 8) := by kernel_rfl
/-- What priced answers: a route of the trail's nodes, or that there is none. -/
def PricePost (w : World) (na : Option Addr) (n nc : Nat) (amt : Int) (s : List Stp) (r : Ending) (w' : World) : Prop :=
  Below w.heap.size w w' ∧ ((PayOk amt s ∧ ∃ ga gc aa ac, r = .returned (.tuple #[.agg #[.slice na n nc, .slice ga s.length gc, .slice aa s.length ac], .bool true]) ∧ w'.ownsRow w.heap.size 3 1 (.slice ga s.length gc) s.length (ins (stE s)) ∧ w'.ownsRow w.heap.size 40 1 (.slice aa s.length ac) s.length (Mon.nums (amtsE amt s).2)) ∨ (¬ PayOk amt s ∧ r = .returned (.tuple #[.agg #[.slice none 0 0, .slice none 0 0, .slice none 0 0], .bool false])))

set_option maxRecDepth 100000 in
set_option maxHeartbeats 8000000 in
theorem priced_any (sa : Option Addr) (sl sc : Nat) (ea : Option Addr) (el ec : Nat) (goal amt : Int) (na : Option Addr) (n nc : Nat) (ta : Option Addr) (tl tc : Nat) (s : List Stp) (w : World) (hS : StpRow w ta s) (htl : s.length = tl) (h0 : 0 < tl) (ht2 : tl ≤ 100) (ham : Word amt) (hw : ∀ q ∈ s, Word q.b ∧ Word q.r) :
    Calls Try.prog 73 #[.agg #[.slice sa sl sc, .slice ea el ec, .int .i64 goal, .int .u64 amt], .agg #[.slice na n nc, .slice ta tl tc]] w (PricePost w na n nc amt s) := by
  have HTL := Lib.hid htl
  have HFW := Lib.hid (feesL_word hw)
  have HWW := Lib.hid hw
  have HAM := Lib.hid ham
  have BV : Hid (Below w.heap.size w (((w.alloc (.cells #[.slice sa sl sc, .slice ea el ec, .int .i64 goal, .int .u64 amt] 117)).alloc (.cells #[.slice na n nc, .slice ta tl tc] 122)).alloc (.cells #[.slice none 0 0, .slice none 0 0, .slice none 0 0] 89))) := Lib.hid ((((Below.refl _ _).alloc (Nat.le_refl _) _).alloc (by simp) _).alloc (by simp; omega) _)
  have SV0 : Hid (Blk (((w.alloc (.cells #[.slice sa sl sc, .slice ea el ec, .int .i64 goal, .int .u64 amt] 117)).alloc (.cells #[.slice na n nc, .slice ta tl tc] 122)).alloc (.cells #[.slice none 0 0, .slice none 0 0, .slice none 0 0] 89)) w.heap.size 117 [.slice sa sl sc, .slice ea el ec, .int .i64 goal, .int .u64 amt]) := Lib.hid (((Blk.new w 117 [.slice sa sl sc, .slice ea el ec, .int .i64 goal, .int .u64 amt]).alloc _).alloc _)
  have TV0 : Hid (Blk (((w.alloc (.cells #[.slice sa sl sc, .slice ea el ec, .int .i64 goal, .int .u64 amt] 117)).alloc (.cells #[.slice na n nc, .slice ta tl tc] 122)).alloc (.cells #[.slice none 0 0, .slice none 0 0, .slice none 0 0] 89)) (w.heap.size + 1) 122 [.slice na n nc, .slice ta tl tc]) := Lib.hid ((Blk.mk_ (cs := [.slice na n nc, .slice ta tl tc]) (by simp)).alloc _)
  have RV0 : Hid (Blk (((w.alloc (.cells #[.slice sa sl sc, .slice ea el ec, .int .i64 goal, .int .u64 amt] 117)).alloc (.cells #[.slice na n nc, .slice ta tl tc] 122)).alloc (.cells #[.slice none 0 0, .slice none 0 0, .slice none 0 0] 89)) (w.heap.size + 1 + 1) 89 [.slice none 0 0, .slice none 0 0, .slice none 0 0]) := Lib.hid (Blk.mk_ (cs := [.slice none 0 0, .slice none 0 0, .slice none 0 0]) (by simp))
  have HZ0 := Lib.hid hS
  clear hS htl hw ham
  obtain ⟨i0, hi, hz0, hz1, hz2⟩ := info_parts info3i'
  go_enter Try.func73, Try.ntmps73
  go_upto_region 1 with fail
  generalize (((w.alloc (.cells #[.slice sa sl sc, .slice ea el ec, .int .i64 goal, .int .u64 amt] 117)).alloc (.cells #[.slice na n nc, .slice ta tl tc] 122)).alloc (.cells #[.slice none 0 0, .slice none 0 0, .slice none 0 0] 89)) = V at BV SV0 TV0 RV0 ⊢
  have hgr : w.heap.size ≤ w.heap.size + 1 + 1 := by omega
  have hgt9 : w.heap.size + 1 ≠ w.heap.size + 1 + 1 := by omega
  obtain ⟨gr, hgr2⟩ : ∃ g, w.heap.size + 1 + 1 = g := ⟨_, rfl⟩
  rw [hgr2] at RV0 hgr hgt9 ⊢
  obtain ⟨gt, hgt⟩ : ∃ g, w.heap.size + 1 = g := ⟨_, rfl⟩
  rw [hgt] at TV0 hgt9 ⊢
  clear hgr2 hgt
  have SV := SV0
  have TV := TV0
  have RV := RV0
  clear SV0 TV0 RV0
  have hBz : Below V.heap.size V V.drew := below_drewN (Below.refl _ _) 1
  have SX0 : Hid (Blk V.drew w.heap.size 117 [.slice sa sl sc, .slice ea el ec, .int .i64 goal, .int .u64 amt]) := Lib.hid (SV.out.below hBz SV.out.lt)
  have TX0 : Hid (Blk V.drew gt 122 [.slice na n nc, .slice ta tl tc]) := Lib.hid (TV.out.below hBz TV.out.lt)
  have RX0 : Hid (Blk V.drew gr 89 [.slice none 0 0, .slice none 0 0, .slice none 0 0]) := Lib.hid (RV.out.below hBz RV.out.lt)
  have BX0 : Hid (Below w.heap.size w V.drew) := Lib.hid (BV.out.trans (hBz.mono BV.out.size))
  clear hBz
  refine wp_region_held_drew (S := fun w' => Blk w' w.heap.size 117 [.slice sa sl sc, .slice ea el ec, .int .i64 goal, .int .u64 amt] ∧ Blk w' gt 122 [.slice na n nc, .slice ta tl tc]) (by kernel_rfl) (⟨SX0.out, TX0.out⟩) (fun hHeld => ?_)
  generalize V.drew = X0 at hHeld SX0 TX0 RX0 BX0 ⊢
  refine wpAnyH_take (i := 0) (v := .pointer (some ⟨w.heap.size, 3, none⟩)) rfl (by kernel_rfl) (by kernel_rfl) (by kernel_rfl) (fun _ _ _ h => h) (Or.inl ⟨by rfl, by intro w' h; go_simp⟩) hHeld ?_
  show wpAnyH _ _ _ _ _ _ _ (Act.put _ (some 12) _) _
  simp only [Act.put, List.setIfInBounds_toArray, List.set_cons_zero, List.set_cons_succ]
  refine wpAnyH_take (i := 1) (v := .int .u64 amt) rfl (by kernel_rfl) (by kernel_rfl) (by kernel_rfl) (fun _ _ _ h => h) (Or.inl ⟨by rfl, by intro w' h; have k0 := Blk.cell h.1 3; simp only [List.getElem?_cons_zero, List.getElem?_cons_succ] at k0; go_simp⟩) hHeld ?_
  show wpAnyH _ _ _ _ _ _ _ (Act.put _ (some 13) _) _
  simp only [Act.put, List.setIfInBounds_toArray, List.set_cons_zero, List.set_cons_succ]
  refine wpAnyH_take (i := 2) (v := .agg #[.slice na n nc, .slice ta tl tc]) rfl (by kernel_rfl) (by kernel_rfl) (by kernel_rfl) (fun _ _ _ h => h) (Or.inl ⟨by rfl, by intro w' h; have k0 := Blk.cell h.2 0; have k1 := Blk.cell h.2 1; simp only [List.getElem?_cons_zero, List.getElem?_cons_succ] at k0 k1; go_simp⟩) hHeld ?_
  show wpAnyH _ _ _ _ _ _ _ (Act.put _ (some 14) _) _
  simp only [Act.put, List.setIfInBounds_toArray, List.set_cons_zero, List.set_cons_succ]
  refine wpAnyH_ready (rs := [3]) (by kernel_rfl) (by simp) ?_
  refine AllReadyH.cons rfl (fun K hK => ?_) AllReadyH.nil
  refine step_call rfl 88 #[.tmp 14] #[122] rfl #[.agg #[.slice na n nc, .slice ta tl tc]] (by simp [Act.eval]) (by go_simp) (fees_any na n nc ta tl tc s X0 (HZ0.out.below BX0.out) HTL.out (by omega)) ?_
  rintro e X1 ⟨vF, rfl, hO, hB⟩
  obtain ⟨fa, fc, rfl, hFR⟩ := fees_row hO HFW.out
  clear hO
  have SX1 : Hid (Blk X1 w.heap.size 117 [.slice sa sl sc, .slice ea el ec, .int .i64 goal, .int .u64 amt]) := Lib.hid (SX0.out.below hB SX0.out.lt)
  have TX1 : Hid (Blk X1 gt 122 [.slice na n nc, .slice ta tl tc]) := Lib.hid (TX0.out.below hB TX0.out.lt)
  have RX1 : Hid (Blk X1 gr 89 [.slice none 0 0, .slice none 0 0, .slice none 0 0]) := Lib.hid (RX0.out.below hB RX0.out.lt)
  have BX1 : Hid (Below w.heap.size w X1) := Lib.hid (BX0.out.trans (hB.mono BX0.out.size))
  have FX1 : Hid (Mon.FeeRow X1 fa (feesL s)) := Lib.hid (hFR)
  clear hFR
  clear SX0 TX0 RX0 BX0 hB
  refine ⟨_, rfl, hK.out _ _ (⟨SX1.out, TX1.out⟩) (fun hHeld => ?_)⟩
  clear hK K
  show wpAnyH _ _ _ _ _ _ _ (Act.put _ (some 15) _) _
  simp only [Act.put, List.setIfInBounds_toArray, List.set_cons_zero, List.set_cons_succ]
  refine wpAnyH_ready (rs := [4]) (by kernel_rfl) (by simp) ?_
  refine AllReadyH.cons rfl (fun K hK => ?_) AllReadyH.nil
  refine step_call rfl 87 #[.tmp 13, .tmp 15] #[40, 152] rfl #[.int .u64 amt, .slice fa (feesL s).length fc] (by simp [Act.eval]) (by go_simp) (back_own amt fa fc (feesL s) X1 HAM.out FX1.out (by rw [feesL_length]; have := HTL.out; omega)) ?_
  rintro e X2 ⟨vN, rfl, hNO, hB⟩
  obtain ⟨aa, ac, hvN⟩ := nums_slice hNO
  subst hvN
  obtain ⟨eB, heB⟩ : ∃ eB, (Mon.backE amt (feesL s)).1 = eB := ⟨_, rfl⟩
  obtain ⟨lA, hlA⟩ : ∃ lA, (Mon.backE amt (feesL s)).2 = lA := ⟨_, rfl⟩
  obtain ⟨la, hla⟩ : ∃ la, lA.length = la := ⟨_, rfl⟩
  rw [hlA, hla] at hNO
  rw [heB, hlA, hla]
  have HEB := Lib.hid heB
  have HLA := Lib.hid hlA
  have HLL := Lib.hid hla
  clear heB hlA hla
  have SX2 : Hid (Blk X2 w.heap.size 117 [.slice sa sl sc, .slice ea el ec, .int .i64 goal, .int .u64 amt]) := Lib.hid (SX1.out.below hB SX1.out.lt)
  have TX2 : Hid (Blk X2 gt 122 [.slice na n nc, .slice ta tl tc]) := Lib.hid (TX1.out.below hB TX1.out.lt)
  have RX2 : Hid (Blk X2 gr 89 [.slice none 0 0, .slice none 0 0, .slice none 0 0]) := Lib.hid (RX1.out.below hB RX1.out.lt)
  have BX2 : Hid (Below w.heap.size w X2) := Lib.hid (BX1.out.trans (hB.mono BX1.out.size))
  have FX2 : Hid (Mon.FeeRow X2 fa (feesL s)) := Lib.hid (FX1.out.below hB)
  have NX2 : Hid (X2.ownsRow w.heap.size 40 1 (.slice aa la ac) la (Mon.nums lA)) := Lib.hid (own_lower hNO BX1.out.size)
  clear hNO
  clear SX1 TX1 RX1 BX1 FX1 hB
  refine ⟨_, rfl, hK.out _ _ (⟨SX2.out, TX2.out⟩) (fun hHeld => ?_)⟩
  clear hK K
  show wpAnyH _ _ _ _ _ _ _ (Act.put _ (some 16) _) _
  simp only [Act.put, List.setIfInBounds_toArray, List.set_cons_zero, List.set_cons_succ]
  refine wpAnyH_take (i := 5) (v := .tuple #[.slice aa la ac, .int .i64 eB]) rfl (by kernel_rfl) (by kernel_rfl) (by kernel_rfl) (fun _ _ _ h => h) (Or.inl ⟨by rfl, fun w _ => by rfl⟩) hHeld ?_
  show wpAnyH _ _ _ _ _ _ _ (Act.put _ (some 11) _) _
  simp only [Act.put, List.setIfInBounds_toArray, List.set_cons_zero, List.set_cons_succ]
  refine wpAnyH_take (i := 6) (v := .slice aa la ac) rfl (by kernel_rfl) (by kernel_rfl) (by kernel_rfl) (fun _ _ _ h => h) (Or.inl ⟨by rfl, by intro w' h; go_simp⟩) hHeld ?_
  show wpAnyH _ _ _ _ _ _ _ (Act.put _ (some 17) _) _
  simp only [Act.put, List.setIfInBounds_toArray, List.set_cons_zero, List.set_cons_succ]
  refine wpAnyH_take (i := 7) (v := .int .i64 eB) rfl (by kernel_rfl) (by kernel_rfl) (by kernel_rfl) (fun _ _ _ h => h) (Or.inl ⟨by rfl, by intro w' h; go_simp⟩) hHeld ?_
  show wpAnyH _ _ _ _ _ _ _ (Act.put _ (some 18) _) _
  simp only [Act.put, List.setIfInBounds_toArray, List.set_cons_zero, List.set_cons_succ]
  refine wpAnyH_take (i := 8) (v := .slice aa la ac) rfl (by kernel_rfl) (by kernel_rfl) (by kernel_rfl) (fun _ _ _ h => h) (Or.inl ⟨by rfl, fun w _ => by rfl⟩) hHeld ?_
  show wpAnyH _ _ _ _ _ _ _ (Act.put _ (some 6) _) _
  simp only [Act.put, List.setIfInBounds_toArray, List.set_cons_zero, List.set_cons_succ]
  refine wpAnyH_take (i := 9) (v := .int .i64 eB) rfl (by kernel_rfl) (by kernel_rfl) (by kernel_rfl) (fun _ _ _ h => h) (Or.inl ⟨by rfl, fun w _ => by rfl⟩) hHeld ?_
  show wpAnyH _ _ _ _ _ _ _ (Act.put _ (some 7) _) _
  simp only [Act.put, List.setIfInBounds_toArray, List.set_cons_zero, List.set_cons_succ]
  refine wpAnyH_done (by kernel_rfl) ?_ _
  clear hHeld
  by_cases he : eB = 0
  · subst he
    clear FX2 SX2
    have hle : lA.length = s.length := by have h1 := amts_length (amt := amt) (s := s) HAM.out HWW.out (by rw [HTL.out]; exact h0) HEB.out; unfold amtsE at h1; rw [HLA.out] at h1; exact h1
    obtain rfl : tl = la := by rw [← HLL.out, hle, HTL.out]
    clear hle
    have t1 : X2.cell? ⟨gt, 1, none⟩ = some (.slice ta tl tc) := TX2.out.cell 1
    go_wp2_with (at_make; refine wpList_make_full _ rfl (.tmp 24) (.tmp 24) 58 rfl X2.heap.size 3 i0 (.int .i64 0) 1 Try.underlying58 hi hz0 hz1 .i64 .i64 _ _ tl rfl rfl ?c1 ?c2 ?c3 ?c4 ?c5 ?_)
    case c1 => omega
    case c2 => omega
    case c3 => rw [hz2]; omega
    case c4 => unfold maxLen; omega
    case c5 => exact Nat.le_refl _
    intro W1 hown hg
    have B1 : Hid (Below X2.heap.size X2 W1) := Lib.hid ((Below.refl _ _).grown hg (Nat.le_refl _) (by simp))
    have O1 : Hid (W1.ownsRow X2.heap.size 3 1 (.slice (some ⟨X2.heap.size, 0, none⟩) tl tl) tl (ins (eRow s 0 tl))) := Lib.hid (by rw [eRow_zero]; have h9 := hown; rw [toList_madeCells_one] at h9; exact h9)
    clear hown hg t1
    have t1 : W1.cell? ⟨gt, 1, none⟩ = some (.slice ta tl tc) := (TX2.out.below B1.out TX2.out.lt).cell 1
    have HC0 : Hid (canL s lA 0) := Lib.hid (fun i hi => by omega)
    obtain ⟨ga, hga⟩ := own_some NX2.out h0
    subst hga
    go_wp2_with fail
    clear t1
    go_loopw [29] (fun j wd => ∃ k : Nat, k ≤ tl ∧ j = .int .i64 (k : Int) ∧ Hid (canL s lA k) ∧ Hid (wd.ownsRow X2.heap.size 3 1 (.slice (some ⟨X2.heap.size, 0, none⟩) tl tl) tl (ins (eRow s k tl))) ∧ Hid (Below X2.heap.size X2 wd)) (fun j _ => tl - (intOf j).toNat)
    case atStart => exact ⟨0, Nat.zero_le _, rfl, HC0, O1, B1⟩
    case round =>
      clear HC0 O1 B1
      obtain ⟨k, hk, rfl, HC, Or_, Br⟩ := hrel
      obtain ⟨wj, hwj⟩ : ∃ wj : World, wr = wj := ⟨_, rfl⟩
      rw [hwj] at Or_ Br ⊢
      clear hwj
      have Bw := Lib.hid (BX2.out.trans (Br.out.mono BX2.out.size))
      by_cases hlk : k < tl
      · have hkI : (k : Int) < (tl : Int) := by omega
        have hk0 : (0 : Int) ≤ (k : Int) := by omega
        have hkS : k < s.length := by rw [HTL.out]; exact hlk
        have htI : (tl : Int) ≤ 100 := by omega
        obtain ⟨bl, ol, htaa, hcl⟩ := (HZ0.out.below Bw.out).at_ hkS
        subst htaa
        obtain ⟨s0, hs0⟩ : ∃ s0, s.getD k stp00 = s0 := ⟨_, rfl⟩
        rw [hs0] at hcl
        obtain ⟨e9, t9, c9, b9, r9⟩ := s0
        obtain ⟨a, ha⟩ : ∃ a, lA.getD k 0 = a := ⟨_, rfl⟩
        have HST := Lib.hid (canL_step HC.out ha hs0)
        have HSE : Hid ((ins (eRow s k tl)).set k (.int .i64 e9) = ins (eRow s (k + 1) tl)) := Lib.hid (eRow_set s k tl hlk HTL.out e9 (by rw [hs0]))
        have HEA := Lib.hid (eRow_at s k tl hlk HTL.out)
        have HNA : Hid ((Mon.nums lA)[k]? = some (.int .u64 a)) := Lib.hid (nums_at lA k a (by rw [HLL.out]; exact hlk) ha)
        have e0 : wj.cell? ⟨bl, ol + k * 5, none⟩ = some (.int .i64 e9) := hcl.2 0 _ rfl
        have e1 : wj.cell? ⟨bl, ol + k * 5 + 1, none⟩ = some (.int .i64 t9) := hcl.2 1 _ rfl
        have e2 : wj.cell? ⟨bl, ol + k * 5 + 2, none⟩ = some (.int .u64 c9) := hcl.2 2 _ rfl
        have e3 : wj.cell? ⟨bl, ol + k * 5 + 3, none⟩ = some (.int .u64 b9) := hcl.2 3 _ rfl
        have e4 : wj.cell? ⟨bl, ol + k * 5 + 4, none⟩ = some (.int .u64 r9) := hcl.2 4 _ rfl
        clear hcl hs0 hkS ha HC Bw
        have hBo : Below wj.heap.size wj (wj.alloc (.cells #[.int .i64 e9, .int .i64 t9, .int .u64 c9, .int .u64 b9, .int .u64 r9] 44)) := (Below.refl _ _).alloc (Nat.le_refl _) _
        have N2 : Hid (Blk (wj.alloc (.cells #[.int .i64 e9, .int .i64 t9, .int .u64 c9, .int .u64 b9, .int .u64 r9] 44)) wj.heap.size 44 [.int .i64 e9, .int .i64 t9, .int .u64 c9, .int .u64 b9, .int .u64 r9]) := Lib.hid (Blk.new wj 44 _)
        have O2 := Lib.hid (Mon.own_below Or_.out hBo)
        have B2 := Lib.hid (Br.out.trans (hBo.mono Br.out.size))
        clear hBo Or_ Br
        go_upto_region 8 with fail
        clear e0 e1 e2 e3 e4
        generalize wj.alloc (.cells #[.int .i64 e9, .int .i64 t9, .int .u64 c9, .int .u64 b9, .int .u64 r9] 44) = V2 at N2 O2 B2 ⊢
        generalize wj.heap.size = gq at N2 ⊢
        have n2 : V2.cell? ⟨gq, 2, none⟩ = some (.int .u64 c9) := N2.out.cell 2
        have a2 : V2.cell? ⟨ga, k, none⟩ = some (.int .u64 a) := by rw [(Mon.own_below NX2.out B2.out).cellAt k (by omega)]; exact HNA.out
        have HBq : Hid (∀ n, Below V2.heap.size V2 (V2.drewN n)) := Lib.hid (fun n => below_drewN (Below.refl _ _) n)
        by_cases hca : a ≤ c9
        · have d1 : decide (c9 < a) = false := decide_eq_false (by omega)
          have HC2 := Lib.hid (HST.out.1 hca)
          clear HST hca
          go_quiet (fail)
          clear n2 a2 d1
          have O3 := Lib.hid (Mon.own_below O2.out (HBq.out nq))
          have B3 := Lib.hid (B2.out.trans ((HBq.out nq).mono B2.out.size))
          have N3 := Lib.hid (N2.out.below (HBq.out nq) N2.out.lt)
          generalize V2.drewN nq = V3 at O3 B3 N3 ⊢
          clear O2 B2 N2 HBq
          have n0 : V3.cell? ⟨gq, 0, none⟩ = some (.int .i64 e9) := N3.out.cell 0
          have m0 : V3.cell? ⟨X2.heap.size, k, none⟩ = some (.int .i64 0) := by rw [O3.out.cellAt k (by omega)]; exact HEA.out
          have m1 : V3.frozen? ⟨X2.heap.size, k, none⟩ = false := O3.out.frozenAt k
          have O4 : Hid ((V3.setCell ⟨X2.heap.size, k, none⟩ (.int .i64 e9)).ownsRow X2.heap.size 3 1 (.slice (some ⟨X2.heap.size, 0, none⟩) tl tl) tl (ins (eRow s (k + 1) tl))) := Lib.hid (by rw [← HSE.out]; exact (O3.out.stored k (.int .i64 e9)).1)
          have B4 : Hid (Below X2.heap.size X2 (V3.setCell ⟨X2.heap.size, k, none⟩ (.int .i64 e9))) := Lib.hid (B3.out.setCell (Nat.le_refl _) _)
          clear O3 B3 N3
          go_wp2
          go_roundw
          case rel => exact ⟨k + 1, by omega, by go_num, HC2, O4, B4⟩
          case measure => simp [intOf]; omega
        · have d1 : decide (c9 < a) = true := decide_eq_true (by omega)
          have HC2 := Lib.hid (HST.out.2 hca tl hlk)
          clear HST hca
          go_quiet (fail)
          clear n2 a2 d1
          have B3 := Lib.hid (B2.out.trans ((HBq.out nq).mono B2.out.size))
          have R3 := Lib.hid (RX2.out.below B3.out RX2.out.lt)
          have W3 := Lib.hid (BX2.out.trans (B3.out.mono BX2.out.size))
          generalize V2.drewN nq = V3 at B3 R3 W3 ⊢
          clear O2 B2 N2 HBq B3
          have r0 := R3.out.cell 0
          have r1 := R3.out.cell 1
          have r2 := R3.out.cell 2
          simp only [List.getElem?_cons_zero, List.getElem?_cons_succ] at r0 r1 r2
          have f0 := R3.out.frozen 0
          have f1 := R3.out.frozen 1
          have f2 := R3.out.frozen 2
          have HNO : Hid (¬ PayOk amt s) := Lib.hid (fun k9 => HC2.out (by have k1 := k9.2; unfold amtsE at k1; rw [HLA.out, HTL.out] at k1; exact k1))
          go_wp2
          exact bodyPost_ret (results89 Try.results73 _ _ gr 89 none none none 0 0 0 0 0 0 _ rfl rfl (Blk.set_ (Blk.set_ (Blk.set_ R3.out 0 (.slice none 0 0)) 1 (.slice none 0 0)) 2 (.slice none 0 0))) rfl ⟨((W3.out.setCell (p := ⟨gr, 0, none⟩) hgr (.slice none 0 0)).setCell (p := ⟨gr, 1, none⟩) hgr (.slice none 0 0)).setCell (p := ⟨gr, 2, none⟩) hgr (.slice none 0 0), .inr ⟨HNO.out, rfl⟩⟩
      · obtain rfl : k = tl := by omega
        have HOK9 : Hid (PayOk amt s) := Lib.hid ⟨HEB.out, by unfold amtsE; rw [HLA.out, HTL.out]; exact HC.out⟩
        have R3 := Lib.hid (RX2.out.below Br.out RX2.out.lt)
        have T3 := Lib.hid (TX2.out.below Br.out TX2.out.lt)
        have N3 := Lib.hid (Mon.own_below NX2.out Br.out)
        have t0 : wj.cell? ⟨gt, 0, none⟩ = some (.slice na n nc) := T3.out.cell 0
        have r0 := R3.out.cell 0
        have r1 := R3.out.cell 1
        have r2 := R3.out.cell 2
        simp only [List.getElem?_cons_zero, List.getElem?_cons_succ] at r0 r1 r2
        have f0 := R3.out.frozen 0
        have f1 := R3.out.frozen 1
        have f2 := R3.out.frozen 2
        have RA := Lib.hid (Blk.set_ R3.out 0 (.slice na n nc))
        have RB := Lib.hid (Blk.set_ RA.out 1 (.slice (some ⟨X2.heap.size, 0, none⟩) k k))
        have RC := Lib.hid (Blk.set_ RB.out 2 (.slice (some ⟨ga, 0, none⟩) k ac))
        have OF := Lib.hid (own_set (o := 2) (u := .slice (some ⟨ga, 0, none⟩) k ac) (own_set (o := 1) (u := .slice (some ⟨X2.heap.size, 0, none⟩) k k) (own_set (o := 0) (u := .slice na n nc) Or_.out R3.out (by decide)) RA.out (by decide)) RB.out (by decide))
        have NF := Lib.hid (own_set (o := 2) (u := .slice (some ⟨ga, 0, none⟩) k ac) (own_set (o := 1) (u := .slice (some ⟨X2.heap.size, 0, none⟩) k k) (own_set (o := 0) (u := .slice na n nc) N3.out R3.out (by decide)) RA.out (by decide)) RB.out (by decide))
        have BF := Lib.hid ((((Bw.out.setCell (p := ⟨gr, 0, none⟩) hgr (.slice na n nc)).setCell (p := ⟨gr, 1, none⟩) hgr (.slice (some ⟨X2.heap.size, 0, none⟩) k k))).setCell (p := ⟨gr, 2, none⟩) hgr (.slice (some ⟨ga, 0, none⟩) k ac))
        clear N3 T3 HC Br Bw Or_
        go_wp2
        exact bodyPost_ret (results89 Try.results73 _ _ gr 89 na (some ⟨X2.heap.size, 0, none⟩) (some ⟨ga, 0, none⟩) n k k nc k ac _ rfl rfl RC.out) rfl ⟨BF.out, .inl ⟨HOK9.out, _, _, _, _, by rw [HTL.out]; rfl, by rw [HTL.out, ← eRow_full s k HTL.out]; exact own_lower OF.out BX2.out.size, by unfold amtsE; rw [HTL.out, HLA.out]; exact NF.out⟩⟩
  · have b0 : (eB != 0) = true := by simpa using he
    clear SX2 FX2 TX2 NX2
    have r0 := RX2.out.cell 0
    have r1 := RX2.out.cell 1
    have r2 := RX2.out.cell 2
    simp only [List.getElem?_cons_zero, List.getElem?_cons_succ] at r0 r1 r2
    have f0 := RX2.out.frozen 0
    have f1 := RX2.out.frozen 1
    have f2 := RX2.out.frozen 2
    have HNO : Hid (¬ PayOk amt s) := Lib.hid (fun k => he (by have k1 := k.1; unfold amtsE at k1; rw [HEB.out] at k1; exact k1))
    go_wp2
    exact bodyPost_ret (results89 Try.results73 _ _ gr 89 none none none 0 0 0 0 0 0 _ rfl rfl (Blk.set_ (Blk.set_ (Blk.set_ RX2.out 0 (.slice none 0 0)) 1 (.slice none 0 0)) 2 (.slice none 0 0))) rfl ⟨((BX2.out.setCell (p := ⟨gr, 0, none⟩) hgr (.slice none 0 0)).setCell (p := ⟨gr, 1, none⟩) hgr (.slice none 0 0)).setCell (p := ⟨gr, 2, none⟩) hgr (.slice none 0 0), .inr ⟨HNO.out, rfl⟩⟩
end Go.Proofs.Ytnnimjaigciedaa
