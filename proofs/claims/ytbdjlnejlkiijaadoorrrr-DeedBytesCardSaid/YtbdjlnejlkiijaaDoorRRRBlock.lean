/-
  The document's block (tollhouseref03.Tables.block, function 25): the words behind one block more; nothing that was there is written.
-/
import Derived.Test.YtbdjlnejlkiijaaDoorRRRBlockLib
import Derived.StillTailTactics
namespace Go.Proofs.YtbdjlnejlkiijaaDoorRRR
open Go.RowKit
set_option linter.unusedVariables false

set_option maxRecDepth 100000 in
set_option maxHeartbeats 4000000 in
theorem block_any (f r : ByteArray) (gh oh ch gb ob cb : Nat) (hs bs : List Nat) (w1 : World) (HH1 : Hid (Handed w1 gh oh gb ob hs bs r)) (hch : 8 ≤ ch) (hcb : 64 ≤ cb) :
    Calls Tryd.prog 53 #[.agg #[.string f, .string r], .slice (some ⟨gh, oh, none⟩) 8 ch, .slice (some ⟨gb, ob, none⟩) 64 cb] w1 fun e w' => ∃ v, e = .returned v ∧ Own64 w' w1.heap.size v (comp hs bs) ∧ Below w1.heap.size w1 w' := by
  go_enter Tryd.func53, Tryd.ntmps53
  go_wp2_with fail
  have HW1 := Lib.hid ((Below.refl w1.heap.size w1).alloc (Nat.le_refl _) (.cells #[.string f, .string r] 56))
  have HST : Hid ((w1.alloc (.cells #[.string f, .string r] 56)).cell? ⟨w1.heap.size, 1, none⟩ = some (.string r)) := Lib.hid (by simp)
  have HSZ : Hid ((w1.alloc (.cells #[.string f, .string r] 56)).heap.size = w1.heap.size + 1) := Lib.hid (by simp)
  have HH := Lib.hid (HH1.out.below HW1.out)
  generalize w1.alloc (.cells #[.string f, .string r] 56) = w at HW1 HST HSZ HH ⊢
  have hw1 : w1.heap.size < w.heap.size := by rw [HSZ.out]; omega
  have hbb := HH.out.bb
  have hhb := HH.out.hb
  go_loopw [8, 7] (fun i t wr => ∃ (k : Nat), k ≤ 64 ∧ i = .int .i64 k ∧ Hid (Own64 wr w.heap.size t (sched bs k)) ∧ Hid (Below w.heap.size w wr)) (fun i _ _ => 64 - (intOf i).toNat)
  case atStart => exact ⟨0, Nat.zero_le _, rfl, Lib.hid (Own64.nil _ _), Lib.hid (Below.refl _ _)⟩
  case round =>
    obtain ⟨k, hk, rfl, HO, HB⟩ := hrel
    by_cases hlt : k < 64
    · by_cases h16 : k < 16
      · have c0 := HH.out.bc (4 * k) (by omega)
        have c1 := HH.out.bc (4 * k + 1) (by omega)
        have c2 := HH.out.bc (4 * k + 2) (by omega)
        have c3 := HH.out.bc (4 * k + 3) (by omega)
        obtain ⟨x0, e0⟩ : ∃ x, bs.getD (4 * k) 0 = x := ⟨_, rfl⟩
        obtain ⟨x1, e1⟩ : ∃ x, bs.getD (4 * k + 1) 0 = x := ⟨_, rfl⟩
        obtain ⟨x2, e2⟩ : ∃ x, bs.getD (4 * k + 2) 0 = x := ⟨_, rfl⟩
        obtain ⟨x3, e3⟩ : ∃ x, bs.getD (4 * k + 3) 0 = x := ⟨_, rfl⟩
        have l0 := getD_lt (by omega) HH.out.blt (4 * k)
        have l1 := getD_lt (by omega) HH.out.blt (4 * k + 1)
        have l2 := getD_lt (by omega) HH.out.blt (4 * k + 2)
        have l3 := getD_lt (by omega) HH.out.blt (4 * k + 3)
        rw [e0] at c0 l0
        rw [e1] at c1 l1
        rw [e2] at c2 l2
        rw [e3] at c3 l3
        rw [← HB.out.cell (p := ⟨gb, _, none⟩) hbb] at c0 c1 c2 c3
        have HE : Hid (sched bs (k + 1) = sched bs k ++ [x0 * 16777216 + x1 * 65536 + x2 * 256 + x3]) := Lib.hid (by
          simp only [sched, nextW, if_pos h16, word, e0, e1, e2, e3])
        have i0 : (4 : Int) * (k : Int) ≤ 60 := by omega
        have i1 : (0 : Int) ≤ (k : Int) := by omega
        have i2 : (k : Int) < 16 := by omega
        have hbr : gb < wr.heap.size := Nat.lt_of_lt_of_le hbb HB.out.size
        have j0 : IntKind.i64.wrap (4 * (k : Int)) = 4 * (k : Int) := IntWalk.i64_in _ (by omega)
        have j1 : IntKind.i64.wrap (4 * (k : Int) + 1) = 4 * (k : Int) + 1 := IntWalk.i64_in _ (by omega)
        have j2 : IntKind.i64.wrap (4 * (k : Int) + 2) = 4 * (k : Int) + 2 := IntWalk.i64_in _ (by omega)
        have j3 : IntKind.i64.wrap (4 * (k : Int) + 3) = 4 * (k : Int) + 3 := IntWalk.i64_in _ (by omega)
        have t0 := idx8 gb ob 64 cb (4 * k) (4 * (k : Int)) (by omega) (by omega)
        have t1 := idx8 gb ob 64 cb (4 * k + 1) (4 * (k : Int) + 1) (by omega) (by omega)
        have t2 := idx8 gb ob 64 cb (4 * k + 2) (4 * (k : Int) + 2) (by omega) (by omega)
        have t3 := idx8 gb ob 64 cb (4 * k + 3) (4 * (k : Int) + 3) (by omega) (by omega)
        have HN := Lib.hid (word_ref x0 x1 x2 x3 l0 l1 l2 l3)
        have HK : Hid (∀ (o : Obj) (w2 : World), ((wr.alloc o).drew).grownBy w2 u7.ownBlock → Below w.heap.size w w2) := Lib.hid fun o w2 hg => (HB.out.alloc HB.out.size o).drew.grown hg (by have := HB.out.size; simp; omega) (fun g hg => (World.ownsRow.lt HO.out g hg).1)
        have HK2 : Hid (∀ w' : World, Below w.heap.size w w' → w'.cell? ⟨gb, ob + 4 * k, none⟩ = some (.int .u8 (x0 : Int)) ∧ w'.cell? ⟨gb, ob + (4 * k + 1), none⟩ = some (.int .u8 (x1 : Int)) ∧ w'.cell? ⟨gb, ob + (4 * k + 2), none⟩ = some (.int .u8 (x2 : Int)) ∧ w'.cell? ⟨gb, ob + (4 * k + 3), none⟩ = some (.int .u8 (x3 : Int))) := Lib.hid fun w' hw => by
          rw [hw.cell (p := ⟨gb, _, none⟩) hbb, hw.cell (p := ⟨gb, _, none⟩) hbb, hw.cell (p := ⟨gb, _, none⟩) hbb, hw.cell (p := ⟨gb, _, none⟩) hbb, ← HB.out.cell (p := ⟨gb, _, none⟩) hbb, ← HB.out.cell (p := ⟨gb, _, none⟩) hbb, ← HB.out.cell (p := ⟨gb, _, none⟩) hbb, ← HB.out.cell (p := ⟨gb, _, none⟩) hbb]
          exact ⟨c0, c1, c2, c3⟩
        have HSL : Hid ((sched bs k).length + 1 ≤ 100000) := Lib.hid (by rw [sched_length]; omega)
        have HBS : Hid (∀ o : Obj, w.heap.size ≤ ((wr.alloc o).drew).heap.size) := Lib.hid fun o => by have := HB.out.size; simp; omega
        clear e0 e1 e2 e3
        go_wp2_with fail
        go_region_held3 (fun w' => w'.cell? ⟨gb, ob + 4 * k, none⟩ = some (.int .u8 (x0 : Int)) ∧ w'.cell? ⟨gb, ob + (4 * k + 1), none⟩ = some (.int .u8 (x1 : Int)) ∧ w'.cell? ⟨gb, ob + (4 * k + 2), none⟩ = some (.int .u8 (x2 : Int)) ∧ w'.cell? ⟨gb, ob + (4 * k + 3), none⟩ = some (.int .u8 (x3 : Int))) (first | exact ⟨c0, c1, c2, c3⟩ | exact HK2.out _ (HB.out.alloc HB.out.size _).drew | exact HK2.out _ (HK.out _ _ HG2.out))
          ((refine step_app64 (by rfl) (.tmp 32) (.tmp 66) (by rfl) w.heap.size u7 (sched bs k) (by rfl) (HO.out.alloc _) wr.heap.size 23 _ (by rfl) ((Blk.new wr 23 [_]).drewN 1) _ HN.out HSL.out (HBS.out _) ?_; intro v2 w2 HO2 HG2))
        rw [← HE.out] at HO2
        have HB2 := Lib.hid (HK.out _ _ HG2.out)
        clear c0 c1 c2 c3 t0 t1 t2 t3 j0 j1 j2 j3 HG2
        go_wp2
        go_roundw
        case rel => exact ⟨k + 1, by omega, by go_num, HO2, HB2⟩
        case measure => simp [intOf]; omega
      · have h16I : (16 : Int) ≤ (k : Int) := by omega
        have hltI : (k : Int) < 64 := by omega
        have hsl := sched_length bs k
        obtain ⟨g7, c7, hv7, hg7, hg7l, hc7, hc7b, hcells, _⟩ := HO.out.form (by omega)
        rw [hsl] at hv7 hcells hc7
        subst hv7
        have hsb := sched_lt bs HH.out.blt k
        have c0 := hcells (k - 16) (by omega)
        have c1 := hcells (k - 15) (by omega)
        have c2 := hcells (k - 7) (by omega)
        have c3 := hcells (k - 2) (by omega)
        have l0 := getD_lt (by omega) hsb (k - 16)
        have l1 := getD_lt (by omega) hsb (k - 15)
        have l2 := getD_lt (by omega) hsb (k - 7)
        have l3 := getD_lt (by omega) hsb (k - 2)
        obtain ⟨x0, e0⟩ : ∃ x, (sched bs k).getD (k - 16) 0 = x := ⟨_, rfl⟩
        obtain ⟨x1, e1⟩ : ∃ x, (sched bs k).getD (k - 15) 0 = x := ⟨_, rfl⟩
        obtain ⟨x2, e2⟩ : ∃ x, (sched bs k).getD (k - 7) 0 = x := ⟨_, rfl⟩
        obtain ⟨x3, e3⟩ : ∃ x, (sched bs k).getD (k - 2) 0 = x := ⟨_, rfl⟩
        rw [e0] at c0 l0
        rw [e1] at c1 l1
        rw [e2] at c2 l2
        rw [e3] at c3 l3
        have HE : Hid (sched bs (k + 1) = sched bs k ++ [(x0 + sgA x1 + x2 + sgB x3) % 4294967296]) := Lib.hid (by
          show sched bs k ++ [nextW bs (sched bs k) k] = _
          rw [nextW, if_neg (by omega), more, e0, e1, e2, e3])
        have t0 := idx64 g7 0 k c7 (k - 16) ((k : Int) - 16) (by omega) (by omega)
        have t1 := idx64 g7 0 k c7 (k - 15) ((k : Int) - 15) (by omega) (by omega)
        have t2 := idx64 g7 0 k c7 (k - 7) ((k : Int) - 7) (by omega) (by omega)
        have t3 := idx64 g7 0 k c7 (k - 2) ((k : Int) - 2) (by omega) (by omega)
        simp only [Nat.zero_add] at t0 t1 t2 t3
        have j0 : IntKind.i64.wrap ((k : Int) - 16) = (k : Int) - 16 := IntWalk.i64_in _ (by omega)
        have j1 : IntKind.i64.wrap ((k : Int) - 15) = (k : Int) - 15 := IntWalk.i64_in _ (by omega)
        have j2 : IntKind.i64.wrap ((k : Int) - 7) = (k : Int) - 7 := IntWalk.i64_in _ (by omega)
        have j3 : IntKind.i64.wrap ((k : Int) - 2) = (k : Int) - 2 := IntWalk.i64_in _ (by omega)
        have HSA := Lib.hid (sgA_ref x1 l1)
        have HSB := Lib.hid (sgB_ref x3 l3)
        have la := sgA_lt x1 l1
        have lb := sgB_lt x3 l3
        clear e0 e1 e2 e3 hcells hsb hsl
        go_wp2_with fail
        go_quiet (fail)
        go_wp2_with fail
        refine (right_any x1 7 true _ l1 (by omega)).mono ?_
        rintro e w' ⟨rfl, q7, rfl⟩
        go_wp2_with fail
        refine (right_any x1 18 true _ l1 (by omega)).mono ?_
        rintro e w' ⟨rfl, q18, rfl⟩
        go_wp2_with fail
        refine (right_any x1 3 false _ l1 (by omega)).mono ?_
        rintro e w' ⟨rfl, q3, rfl⟩
        go_wp2_with fail
        refine (right_any x3 17 true _ l3 (by omega)).mono ?_
        rintro e w' ⟨rfl, q17, rfl⟩
        go_wp2_with fail
        refine (right_any x3 19 true _ l3 (by omega)).mono ?_
        rintro e w' ⟨rfl, q19, rfl⟩
        go_wp2_with fail
        refine (right_any x3 10 false _ l3 (by omega)).mono ?_
        rintro e w' ⟨rfl, q10, rfl⟩
        go_wp2_with fail
        rw [HSA.out, HSB.out]
        obtain ⟨N, hN⟩ : ∃ N, nq + q7 + q18 + q3 + q17 + q19 + q10 = N := ⟨_, rfl⟩
        rw [hN]
        have d0 : (wr.drewN N).cell? ⟨g7, k - 16, none⟩ = some (.int .u64 (x0 : Int)) := c0
        have d2 : (wr.drewN N).cell? ⟨g7, k - 7, none⟩ = some (.int .u64 (x2 : Int)) := c2
        have HOV : Hid (Own64 (wr.drewN N) w.heap.size (.slice (some ⟨g7, 0, none⟩) k c7) (sched bs k)) := Lib.hid HO.out
        have HBV : Hid (Below w.heap.size w (wr.drewN N)) := Lib.hid (below_drewN HB.out N)
        have hgV : g7 < (wr.drewN N).heap.size := hg7l
        clear hN
        generalize wr.drewN N = V at d0 d2 HOV HBV hgV ⊢
        have HN := Lib.hid (sum_ref x0 (sgA x1) x2 (sgB x3) l0 la l2 lb)
        have HKD : Hid (∀ o : Obj, (V.alloc o).drew.cell? ⟨g7, k - 16, none⟩ = some (.int .u64 (x0 : Int)) ∧ (V.alloc o).drew.cell? ⟨g7, k - 7, none⟩ = some (.int .u64 (x2 : Int))) := Lib.hid fun o => ⟨(World.cell?_alloc_lt V o _ hgV).trans d0, (World.cell?_alloc_lt V o _ hgV).trans d2⟩
        have HSL : Hid ((sched bs k).length + 1 ≤ 100000) := Lib.hid (by rw [sched_length]; omega)
        have HBS : Hid (∀ o : Obj, w.heap.size ≤ ((V.alloc o).drew).heap.size) := Lib.hid fun o => by have := HBV.out.size; simp; omega
        have HK : Hid (∀ (o : Obj) (w2 : World), ((V.alloc o).drew).grownBy w2 (Value.slice (some ⟨g7, 0, none⟩) k c7).ownBlock → Below w.heap.size w w2) := Lib.hid fun o w2 hg => (HBV.out.alloc HBV.out.size o).drew.grown hg (by have := HBV.out.size; simp; omega) (fun g hg => (World.ownsRow.lt HOV.out g hg).1)
        clear c0 c1 c2 c3
        go_region_law (refine step_app64 (by rfl) (.tmp 94) (.tmp 111) (by rfl) w.heap.size _ (sched bs k) (by rfl) (HOV.out.alloc _) V.heap.size 23 _ (by rfl) ((Blk.new V 23 [_]).drewN 1) _ HN.out HSL.out (HBS.out _) ?_; intro v2 w2 HO2 HG2)
        all_goals
          rw [← HE.out] at HO2
          have HB2 := Lib.hid (HK.out _ _ HG2.out)
          clear d0 d2 t0 t1 t2 t3 j0 j1 j2 j3 HG2
          go_wp2
          go_roundw
          case rel => exact ⟨k + 1, by omega, by go_num, HO2, HB2⟩
          case measure => simp [intOf]; omega
    · obtain rfl : k = 64 := by omega
      rw [show ((64 : Nat) : Int) = 64 from rfl]
      have hsl := sched_length bs 64
      obtain ⟨gw, cw, hvw, hgw, hgwl, hcw, hcwb, hwcells, _⟩ := HO.out.form (by omega)
      rw [hsl] at hvw hwcells hcw
      subst hvw
      have hsb := sched_lt bs HH.out.blt 64
      have HSV : Hid (∀ j u, (w64 hs)[j]? = some u → wr.cell? ((⟨gh, oh, none⟩ : Addr).add j) = some u) := Lib.hid fun j u hu => by
        have hj : j < hs.length := by have := (List.getElem?_eq_some_iff.1 hu).1; rwa [w64_length] at this
        rw [Addr.add_mid, HB.out.cell (p := ⟨gh, oh + j, none⟩) hhb, HH.out.hc j (by rw [HH.out.hl] at hj; exact hj), ← hu, w64_get hs j hj]
      have HL8 : Hid (8 = hs.length) := Lib.hid HH.out.hl.symm
      have HN8 : Hid (([] : List Nat).length + hs.length ≤ 100000) := Lib.hid (by rw [HH.out.hl]; simp)
      have HWC : Hid (∀ i, i < 64 → wr.cell? ⟨gw, i, none⟩ = some (.int .u64 (((sched bs 64).getD i 0 : Nat) : Int))) := Lib.hid hwcells
      clear hwcells hsl
      go_upto_region 13 with (at_builtin; refine wpList_app64 rfl (.tmp 113) (.tmp 114) rfl wr.heap.size (.slice none 0 0) [] rfl (Own64.nil _ _) ⟨gh, oh, none⟩ 8 ch hs rfl HL8.out HSV.out HN8.out (Nat.le_refl _) ?_; intro v2 w2 HO2 HG2)
      rw [List.nil_append] at HO2
      have HB2 : Hid (Below wr.heap.size wr w2) := Lib.hid ((Below.refl _ _).grown HG2.out (Nat.le_refl _) (fun k hk => by simp [Value.ownBlock] at hk))
      obtain ⟨gv, cv, hvv, hgv, hgvl, hcv, hcvb, hvcells, hvfr⟩ := HO2.out.form (by rw [HH.out.hl]; omega)
      rw [HH.out.hl] at hvv hvcells hcv
      subst hvv
      have HVR : Hid (VRow w2 gv 0 (hs.getD 0 0) (hs.getD 1 0) (hs.getD 2 0) (hs.getD 3 0) (hs.getD 4 0) (hs.getD 5 0) (hs.getD 6 0) (hs.getD 7 0)) := Lib.hid fun p hp => ⟨by
        rw [hvcells p hp]
        match p, hp with
        | 0, _ | 1, _ | 2, _ | 3, _ | 4, _ | 5, _ | 6, _ | 7, _ => rfl, hvfr p⟩
      have HWR : Hid (∀ i, i < 64 → w2.cell? ⟨gw, i, none⟩ = some (.int .u64 (((sched bs 64).getD i 0 : Nat) : Int))) := Lib.hid fun i hi => (HB2.out.cell (p := ⟨gw, i, none⟩) hgwl).trans (HWC.out i hi)
      have HW2 : Hid (Below w.heap.size w w2) := Lib.hid (HB.out.trans (HB2.out.mono HB.out.size))
      have hgwv : gw ≠ gv := by omega
      have hgvw : w.heap.size ≤ gv := Nat.le_trans HB.out.size hgv
      clear hvcells hvfr HG2 HO2 HSV HN8 HL8 HWC
      go_wp2_with fail
      go_loopw [12] (fun i wq => ∃ (k z0 z1 z2 z3 z4 z5 z6 z7 : Nat), k ≤ 64 ∧ i = .int .i64 k ∧ Hid (Stands bs hs k z0 z1 z2 z3 z4 z5 z6 z7) ∧ Hid (VRow wq gv k z0 z1 z2 z3 z4 z5 z6 z7) ∧ Hid (∀ i, i < 64 → wq.cell? ⟨gw, i, none⟩ = some (.int .u64 (((sched bs 64).getD i 0 : Nat) : Int))) ∧ Hid (Below w.heap.size w wq)) (fun i _ => 64 - (intOf i).toNat)
      case atStart => exact ⟨0, _, _, _, _, _, _, _, _, Nat.zero_le _, rfl, Lib.hid rfl, HVR, HWR, HW2⟩
      case round =>
        obtain ⟨k, z0, z1, z2, z3, z4, z5, z6, z7, hk, rfl, HK, HV, HWQ, HBQ⟩ := hrel
        by_cases hlt2 : k < 64
        · obtain ⟨l0, l1, l2, l3, l4, l5, l6, l7⟩ := HK.out.ok HH.out.hlt
          simp only at l0 l1 l2 l3 l4 l5 l6 l7
          obtain ⟨p0, p1, p2, p3, p4, p5, p6, p7, hP⟩ : ∃ p0 p1 p2 p3 p4 p5 p6 p7, Places k p0 p1 p2 p3 p4 p5 p6 p7 := ⟨_, _, _, _, _, _, _, _, rfl, rfl, rfl, rfl, rfl, rfl, rfl, rfl⟩
          have HP := Lib.hid hP
          have k0 : (0 : Int) ≤ (k : Int) := by omega
          have k1 : (k : Int) < 64 := by omega
          have r5 : IntKind.i64.wrap (69 - (k : Int)) = 69 - (k : Int) := IntWalk.i64_in _ (by omega)
          have r6 : IntKind.i64.wrap (70 - (k : Int)) = 70 - (k : Int) := IntWalk.i64_in _ (by omega)
          have r1 : IntKind.i64.wrap (65 - (k : Int)) = 65 - (k : Int) := IntWalk.i64_in _ (by omega)
          have r2 : IntKind.i64.wrap (66 - (k : Int)) = 66 - (k : Int) := IntWalk.i64_in _ (by omega)
          obtain ⟨b0, b1, b2, b3, b4, b5, b6, b7⟩ := HP.out.lt
          have t0 := idx64 gv 0 8 cv p0 (p0 : Int) rfl b0
          have t1 := idx64 gv 0 8 cv p1 (p1 : Int) rfl b1
          have t2 := idx64 gv 0 8 cv p2 (p2 : Int) rfl b2
          have t3 := idx64 gv 0 8 cv p3 (p3 : Int) rfl b3
          have t4 := idx64 gv 0 8 cv p4 (p4 : Int) rfl b4
          have t5 := idx64 gv 0 8 cv p5 (p5 : Int) rfl b5
          have t6 := idx64 gv 0 8 cv p6 (p6 : Int) rfl b6
          have t7 := idx64 gv 0 8 cv p7 (p7 : Int) rfl b7
          have tw := idx64 gw 0 64 cw k (k : Int) rfl hlt2
          simp only [Nat.zero_add] at t0 t1 t2 t3 t4 t5 t6 t7 tw
          obtain ⟨⟨m0, m4, m7, m3⟩, m5, m6, m1, m2⟩ := HP.out.rests hlt2
          obtain ⟨c0, c1, c2, c3, c4, c5, c6, c7⟩ := HV.out.cells HP.out hlt2
          obtain ⟨x, hx⟩ : ∃ x, (sched bs 64).getD k 0 = x := ⟨_, rfl⟩
          obtain ⟨c, hc⟩ : ∃ c, kws.getD k 0 = c := ⟨_, rfl⟩
          have lc : c < 4294967296 := by rw [← hc]; exact getD_lt (Nat.zero_lt_succ _) kws_lt k
          have lx : x < 4294967296 := by rw [← hx]; exact getD_lt (Nat.zero_lt_succ _) (sched_lt bs HH.out.blt 64) k
          have HXW := Lib.hid hx
          have HAT : Hid (∀ W : World, Calls Tryd.prog 52 #[.string r, .int .i64 (k : Int)] W fun e w' => e = .returned (.int .u64 (c : Int)) ∧ W = w') := Lib.hid fun W => by
            have h := at_any r k 64 W (Lib.hid HH.out.rs) (Lib.hid HH.out.rl) hlt2 (by decide)
            rw [HH.out.rk k hlt2, hc] at h
            exact h
          have HBE := Lib.hid (bgE_ref z4 l4)
          have HBA := Lib.hid (bgA_ref z0 l0)
          have HON := Lib.hid (one_ref z4 z5 z6 z7 c x l4 l5 l6 l7 lc lx)
          have hy : z7 + bgE z4 + chs z4 z5 z6 + c + x < 21474836480 := by
            have b1 := bgE_lt z4 l4
            have b2 := chs_lt z4 z5 z6 l5 l6
            clear r5 r6 r1 r2 t0 t1 t2 t3 t4 t5 t6 t7 tw m0 m1 m2 m3 m4 m5 m6 m7
            omega
          obtain ⟨y, hyy⟩ : ∃ y, z7 + bgE z4 + chs z4 z5 z6 + c + x = y := ⟨_, rfl⟩
          rw [hyy] at hy HON
          have HNX : Hid (Stands bs hs (k + 1) ((y % 4294967296 + bgA z0 + maj z0 z1 z2) % 4294967296) z0 z1 z2 ((z3 + y % 4294967296) % 4294967296) z4 z5 z6) := Lib.hid (by
            have h := HK.out.next hx hc
            simp only [fst] at h
            rw [hyy] at h
            exact h)
          have HMI := Lib.hid (mid_ref z3 y l3 hy)
          have HLA := Lib.hid (last_ref y z0 z1 z2 hy l0 l1 l2)
          have HRV0 : Hid (wr.cell? ⟨w1.heap.size, 1, none⟩ = some (.string r)) := Lib.hid ((HBQ.out.cell (p := ⟨w1.heap.size, 1, none⟩) hw1).trans HST.out)
          have HR6 : Hid (∀ W, Calls Tryd.prog 66 #[.int .u64 (z4 : Int), .int .i64 6, .bool true] W fun e w' => e = .returned (.int .u64 ((turned true 6 z4 : Nat) : Int)) ∧ ∃ q, w' = W.drewN q) := Lib.hid fun W => right_any z4 6 true W l4 (by decide)
          have HR11 : Hid (∀ W, Calls Tryd.prog 66 #[.int .u64 (z4 : Int), .int .i64 11, .bool true] W fun e w' => e = .returned (.int .u64 ((turned true 11 z4 : Nat) : Int)) ∧ ∃ q, w' = W.drewN q) := Lib.hid fun W => right_any z4 11 true W l4 (by decide)
          have HR25 : Hid (∀ W, Calls Tryd.prog 66 #[.int .u64 (z4 : Int), .int .i64 25, .bool true] W fun e w' => e = .returned (.int .u64 ((turned true 25 z4 : Nat) : Int)) ∧ ∃ q, w' = W.drewN q) := Lib.hid fun W => right_any z4 25 true W l4 (by decide)
          have HR2 : Hid (∀ W, Calls Tryd.prog 66 #[.int .u64 (z0 : Int), .int .i64 2, .bool true] W fun e w' => e = .returned (.int .u64 ((turned true 2 z0 : Nat) : Int)) ∧ ∃ q, w' = W.drewN q) := Lib.hid fun W => right_any z0 2 true W l0 (by decide)
          have HR13 : Hid (∀ W, Calls Tryd.prog 66 #[.int .u64 (z0 : Int), .int .i64 13, .bool true] W fun e w' => e = .returned (.int .u64 ((turned true 13 z0 : Nat) : Int)) ∧ ∃ q, w' = W.drewN q) := Lib.hid fun W => right_any z0 13 true W l0 (by decide)
          have HR22 : Hid (∀ W, Calls Tryd.prog 66 #[.int .u64 (z0 : Int), .int .i64 22, .bool true] W fun e w' => e = .returned (.int .u64 ((turned true 22 z0 : Nat) : Int)) ∧ ∃ q, w' = W.drewN q) := Lib.hid fun W => right_any z0 22 true W l0 (by decide)
          clear hP hx hc hyy HVR HWR HW2
          go_wp2_with fail
          go_quiet (fail)
          go_wp2_with fail
          have HVVa := Lib.hid (HV.out.drewN nq)
          have HQVa : Hid (∀ i, i < 64 → (wr.drewN nq).cell? ⟨gw, i, none⟩ = some (.int .u64 (((sched bs 64).getD i 0 : Nat) : Int))) := Lib.hid HWQ.out
          have HBVa := Lib.hid (below_drewN HBQ.out nq)
          have HRVa : Hid ((wr.drewN nq).cell? ⟨w1.heap.size, 1, none⟩ = some (.string r)) := Lib.hid HRV0.out
          clear c0 c1 c2 c3 c4 c5 c6 c7
          generalize wr.drewN nq = Va at HVVa HQVa HBVa HRVa ⊢
          obtain ⟨c0, c1, c2, c3, c4, c5, c6, c7⟩ := HVVa.out.cells HP.out hlt2
          go_quiet ((go_at_call 66; first | with_reducible exact quiet_r (HR6.out _) | with_reducible exact quiet_r (HR11.out _) | with_reducible exact quiet_r (HR25.out _)))
          go_wp2_with fail
          rw [HBE.out]
          have HVVb := Lib.hid (HVVa.out.drewN nq)
          have HQVb : Hid (∀ i, i < 64 → (Va.drewN nq).cell? ⟨gw, i, none⟩ = some (.int .u64 (((sched bs 64).getD i 0 : Nat) : Int))) := Lib.hid HQVa.out
          have HBVb := Lib.hid (below_drewN HBVa.out nq)
          have HRVb : Hid ((Va.drewN nq).cell? ⟨w1.heap.size, 1, none⟩ = some (.string r)) := Lib.hid HRVa.out
          clear c0 c1 c2 c3 c4 c5 c6 c7
          generalize Va.drewN nq = Vb at HVVb HQVb HBVb HRVb ⊢
          obtain ⟨c0, c1, c2, c3, c4, c5, c6, c7⟩ := HVVb.out.cells HP.out hlt2
          have hcx := HQVb.out k hlt2
          rw [HXW.out] at hcx
          have hst := HRVb.out
          go_quiet ((go_at_call 52; exact quiet_s (HAT.out _)))
          go_wp2_with fail
          rw [HON.out]
          have HVVc := Lib.hid (HVVb.out.drewN nq)
          have HQVc : Hid (∀ i, i < 64 → (Vb.drewN nq).cell? ⟨gw, i, none⟩ = some (.int .u64 (((sched bs 64).getD i 0 : Nat) : Int))) := Lib.hid HQVb.out
          have HBVc := Lib.hid (below_drewN HBVb.out nq)
          have HRVc : Hid ((Vb.drewN nq).cell? ⟨w1.heap.size, 1, none⟩ = some (.string r)) := Lib.hid HRVb.out
          clear c0 c1 c2 c3 c4 c5 c6 c7 hcx hst
          generalize Vb.drewN nq = Vc at HVVc HQVc HBVc HRVc ⊢
          obtain ⟨c0, c1, c2, c3, c4, c5, c6, c7⟩ := HVVc.out.cells HP.out hlt2
          go_quiet (fail)
          go_wp2_with fail
          have HVVd := Lib.hid (HVVc.out.drewN nq)
          have HQVd : Hid (∀ i, i < 64 → (Vc.drewN nq).cell? ⟨gw, i, none⟩ = some (.int .u64 (((sched bs 64).getD i 0 : Nat) : Int))) := Lib.hid HQVc.out
          have HBVd := Lib.hid (below_drewN HBVc.out nq)
          have HRVd : Hid ((Vc.drewN nq).cell? ⟨w1.heap.size, 1, none⟩ = some (.string r)) := Lib.hid HRVc.out
          clear c0 c1 c2 c3 c4 c5 c6 c7
          generalize Vc.drewN nq = Vd at HVVd HQVd HBVd HRVd ⊢
          obtain ⟨c0, c1, c2, c3, c4, c5, c6, c7⟩ := HVVd.out.cells HP.out hlt2
          go_quiet ((go_at_call 66; first | with_reducible exact quiet_r (HR2.out _) | with_reducible exact quiet_r (HR13.out _) | with_reducible exact quiet_r (HR22.out _)))
          go_upto_region 22 with (fail)
          rw [HBA.out]
          have HVVe := Lib.hid (HVVd.out.drewN nq)
          have HQVe : Hid (∀ i, i < 64 → (Vd.drewN nq).cell? ⟨gw, i, none⟩ = some (.int .u64 (((sched bs 64).getD i 0 : Nat) : Int))) := Lib.hid HQVd.out
          have HBVe := Lib.hid (below_drewN HBVd.out nq)
          have HRVe : Hid ((Vd.drewN nq).cell? ⟨w1.heap.size, 1, none⟩ = some (.string r)) := Lib.hid HRVd.out
          clear c0 c1 c2 c3 c4 c5 c6 c7
          generalize Vd.drewN nq = Ve at HVVe HQVe HBVe HRVe ⊢
          obtain ⟨c0, c1, c2, c3, c4, c5, c6, c7⟩ := HVVe.out.cells HP.out hlt2
          have f3 := (HVVe.out p3 b3).2
          have f7 := (HVVe.out p7 b7).2
          go_wp2_with fail
          rw [HMI.out]
          have HVVf := Lib.hid (HVVe.out.stores HP.out hlt2 ((z3 + y % 4294967296) % 4294967296))
          have HQVf : Hid (∀ i, i < 64 → (Ve.setCell ⟨gv, p3, none⟩ (.int .u64 (((z3 + y % 4294967296) % 4294967296 : Nat) : Int))).cell? ⟨gw, i, none⟩ = some (.int .u64 (((sched bs 64).getD i 0 : Nat) : Int))) := Lib.hid fun i hi => (World.cell?_setCell_far _ _ _ _ (by intro h; exact hgwv h.symm)).trans (HQVe.out i hi)
          have HBVf := Lib.hid (HBVe.out.setCell (p := ⟨gv, p3, none⟩) hgvw (.int .u64 (((z3 + y % 4294967296) % 4294967296 : Nat) : Int)))
          clear c0 c1 c2 c3 c4 c5 c6 c7 f3 f7
          generalize Ve.setCell ⟨gv, p3, none⟩ (.int .u64 (((z3 + y % 4294967296) % 4294967296 : Nat) : Int)) = Vf at HVVf HQVf HBVf ⊢
          obtain ⟨c0, c1, c2, c3, c4, c5, c6, c7⟩ := HVVf.out.cells HP.out hlt2
          have f7 := (HVVf.out p7 b7).2
          clear c1 c2 c3 c4 c5 c6 r5 r6 r1 r2 m5 m6 m1 m2 t1 t2 t3 t4 t5 t6 tw HR6 HR11 HR25 HR2 HR13 HR22 HAT
          go_still_tail 25, (by kernel_rfl)
          change wpList _ _ _ _ _ Vf.drew
          have HVVg := Lib.hid (HVVf.out.drewN 1)
          have HQVg : Hid (∀ i, i < 64 → Vf.drew.cell? ⟨gw, i, none⟩ = some (.int .u64 (((sched bs 64).getD i 0 : Nat) : Int))) := Lib.hid HQVf.out
          have HBVg := Lib.hid HBVf.out.drew
          change Hid (VRow Vf.drew gv k z0 z1 z2 ((z3 + y % 4294967296) % 4294967296) z4 z5 z6 z7) at HVVg
          clear c0 c7 f7
          generalize Vf.drew = Vg at HVVg HQVg HBVg ⊢
          obtain ⟨c0, c1, c2, c3, c4, c5, c6, c7⟩ := HVVg.out.cells HP.out hlt2
          have f7 := (HVVg.out p7 b7).2
          clear c0 c1 c2 c3 c4 c5 c6
          go_wp2
          rw [HLA.out]
          go_roundw
          case rel => exact ⟨k + 1, _, _, _, _, _, _, _, _, hlt2, by go_num, HNX, Lib.hid (HVVg.out.stores7 HP.out hlt2 _), Lib.hid fun i hi => (World.cell?_setCell_far _ _ _ _ (by intro h; exact hgwv h.symm)).trans (HQVg.out i hi), Lib.hid (HBVg.out.setCell (p := ⟨gv, p7, none⟩) hgvw _)⟩
          case measure => clear m0 m3 m4 m7 t0 t7; simp [intOf]; omega
        · obtain rfl : k = 64 := by omega
          rw [show ((64 : Nat) : Int) = 64 from rfl]
          have HE := Lib.hid HK.out.end_
          obtain ⟨l0, l1, l2, l3, l4, l5, l6, l7⟩ := HK.out.ok HH.out.hlt
          simp only at l0 l1 l2 l3 l4 l5 l6 l7
          have HVL : Hid (∀ x ∈ [z0, z1, z2, z3, z4, z5, z6, z7], x < 4294967296) := Lib.hid (by simp; omega)
          obtain ⟨w3, e3⟩ : ∃ w3, w3 = wr := ⟨_, rfl⟩
          subst e3
          have hv3 : gv < w3.heap.size := cell_lt (HV.out 0 (by omega)).1
          have hh3 : gh < w3.heap.size := Nat.lt_of_lt_of_le hhb HBQ.out.size
          have HCH : Hid (∀ i, i < 8 → w3.cell? ⟨gh, oh + i, none⟩ = some (.int .u64 ((hs.getD i 0 : Nat) : Int))) := Lib.hid fun i hi => (HBQ.out.cell (p := ⟨gh, oh + i, none⟩) hhb).trans (HH.out.hc i hi)
          have HCV := Lib.hid HV.out.last
          go_wp2_with fail
          go_loopw [25, 24] (fun i t wq => ∃ (j : Nat), j ≤ 8 ∧ i = .int .i64 j ∧ Hid (Own64 wq w3.heap.size t ((comp hs bs).take j)) ∧ Hid (Below w3.heap.size w3 wq)) (fun i _ _ => 8 - (intOf i).toNat)
          case atStart => exact ⟨0, Nat.zero_le _, rfl, Lib.hid (Own64.nil _ _), Lib.hid (Below.refl _ _)⟩
          case round =>
            obtain ⟨j, hj, rfl, HO3, HB3⟩ := hrel
            by_cases hlt3 : j < 8
            · have c0 := HCH.out j hlt3
              have c1 := HCV.out j hlt3
              rw [← HB3.out.cell (p := ⟨gh, _, none⟩) hh3] at c0
              rw [← HB3.out.cell (p := ⟨gv, _, none⟩) hv3] at c1
              have x0 := getD_lt (by omega) HH.out.hlt j
              have x1 := getD_lt (by omega) HVL.out j
              have HE2 := Lib.hid (addw_take hs [z0, z1, z2, z3, z4, z5, z6, z7] j (by rw [HH.out.hl]; exact hlt3) hlt3)
              obtain ⟨a, ea⟩ : ∃ x, hs.getD j 0 = x := ⟨_, rfl⟩
              obtain ⟨b, eb⟩ : ∃ x, [z0, z1, z2, z3, z4, z5, z6, z7].getD j 0 = x := ⟨_, rfl⟩
              rw [ea] at c0 x0 HE2
              rw [eb] at c1 x1 HE2
              rw [← HE.out] at HE2
              have i1 : (0 : Int) ≤ (j : Int) := by omega
              have i2 : (j : Int) < 8 := by omega
              have t0 := idx64 gh oh 8 ch j (j : Int) rfl hlt3
              have t1 := idx64 gv 0 8 cv j (j : Int) rfl hlt3
              simp only [Nat.zero_add] at t1
              have HN := Lib.hid (out_ref a b x0 x1)
              have HK : Hid (∀ (o : Obj) (w2 : World), ((wr.alloc o).drew).grownBy w2 u24.ownBlock → Below w3.heap.size w3 w2) := Lib.hid fun o w2 hg => (HB3.out.alloc HB3.out.size o).drew.grown hg (by have := HB3.out.size; simp; omega) (fun g hg => (World.ownsRow.lt HO3.out g hg).1)
              have HK2 : Hid (∀ w' : World, Below w3.heap.size w3 w' → w'.cell? ⟨gh, oh + j, none⟩ = some (.int .u64 (a : Int)) ∧ w'.cell? ⟨gv, j, none⟩ = some (.int .u64 (b : Int))) := Lib.hid fun w' hw => by
                rw [hw.cell (p := ⟨gh, _, none⟩) hh3, hw.cell (p := ⟨gv, _, none⟩) hv3, ← HB3.out.cell (p := ⟨gh, _, none⟩) hh3, ← HB3.out.cell (p := ⟨gv, _, none⟩) hv3]
                exact ⟨c0, c1⟩
              have HSL : Hid (((comp hs bs).take j).length + 1 ≤ 100000) := Lib.hid (by rw [List.length_take]; omega)
              have HBS : Hid (∀ o : Obj, w3.heap.size ≤ ((wr.alloc o).drew).heap.size) := Lib.hid fun o => by have := HB3.out.size; simp; omega
              clear ea eb
              go_wp2_with fail
              go_region_held3 (fun w' => w'.cell? ⟨gh, oh + j, none⟩ = some (.int .u64 (a : Int)) ∧ w'.cell? ⟨gv, j, none⟩ = some (.int .u64 (b : Int))) (first | exact ⟨c0, c1⟩ | exact HK2.out _ (HB3.out.alloc HB3.out.size _).drew | exact HK2.out _ (HK.out _ _ HG2.out))
                ((refine step_app64 (by rfl) (.tmp 260) (.tmp 271) (by rfl) w3.heap.size u24 ((comp hs bs).take j) (by rfl) (HO3.out.alloc _) wr.heap.size 23 _ (by rfl) ((Blk.new wr 23 [_]).drewN 1) _ HN.out HSL.out (HBS.out _) ?_; intro v2 w2 HO2 HG2))
              rw [← HE2.out] at HO2
              have HB2 := Lib.hid (HK.out _ _ HG2.out)
              clear c0 c1 t0 t1 HG2
              go_wp2
              go_roundw
              case rel => exact ⟨j + 1, by omega, by go_num, HO2, HB2⟩
              case measure => simp [intOf]; omega
            · obtain rfl : j = 8 := by omega
              have HO4 := HO3
              rw [comp_take_all hs bs HH.out.hl] at HO4
              go_wp2
              go_ret
              exact ⟨_, rfl, HO4.out.lower (Nat.le_trans (Nat.le_of_lt hw1) HBQ.out.size), HW1.out.trans ((HBQ.out.trans (HB3.out.mono HBQ.out.size)).mono (Nat.le_of_lt hw1))⟩
end Go.Proofs.YtbdjlnejlkiijaaDoorRRR
