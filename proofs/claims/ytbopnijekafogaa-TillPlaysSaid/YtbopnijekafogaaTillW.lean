/-
  TillPlays' walk.
-/
import Derived.Test.YtbopnijekafogaaRows
import Derived.Test.YtbopnijekafogaaTillQ
import Derived.Test.YtbopnijekafogaaFlat
namespace Go.Proofs.Ytbopnijekafogaa.tillPlays
open Go.ChangeShapes Go.WideShapes Go.ChangeAt Go.RowKit
set_option linter.unusedVariables false

set_option maxHeartbeats 2000000 in
theorem way_long (a : Option Addr) (cap len : Nat) (c : Option Addr) (cap2 len2 : Nat) (w : World) (hs : 16 < len) (hl : len ≤ 9223372036854775807) :
    Calls Try.prog 3 #[.slice a len cap, .slice c len2 cap2] w fun e w' => e = .returned (.bool true) ∧ Below w.heap.size w w' := by
  have HN := Lib.hid (new_long a cap len w hs hl)
  have HR := Lib.hid (rnew_long a cap len w hs hl)
  clear hs hl
  go_enter Try.func3, Try.ntmps3
  go_wp2_with fail
  refine HN.out.mono ?_
  rintro e w' ⟨rfl, rfl⟩
  go_wp2_with fail
  refine HR.out.mono ?_
  rintro e w' ⟨rfl, rfl⟩
  go_wp2_with fail
  refine (awake_any _).mono ?_
  rintro e w6 ⟨rfl, h6⟩
  go_wp2
  go_ret
  exact ⟨rfl, h6⟩

set_option maxHeartbeats 2000000 in
theorem way_over (a : Option Addr) (cap len : Nat) (xs : List Int) (c : Option Addr) (cap2 len2 : Nat) (w : World) (hlen : xs.length = len) (hs : len ≤ 16) (hN : Nums w a xs) (hE : sumE xs ≠ 0) :
    Calls Try.prog 3 #[.slice a len cap, .slice c len2 cap2] w fun e w' => e = .returned (.bool true) ∧ Below w.heap.size w w' := by
  have HN := Lib.hid (new_over a cap len xs w hlen hs hN hE)
  have HR := Lib.hid (rnew_over a cap len xs w hlen hs hN hE)
  clear hs hlen hN hE
  generalize sumE xs = z at HN HR
  go_enter Try.func3, Try.ntmps3
  go_wp2_with fail
  refine HN.out.mono ?_
  rintro e w' ⟨rfl, rfl⟩
  go_wp2_with fail
  refine HR.out.mono ?_
  rintro e w' ⟨rfl, rfl⟩
  go_wp2_with fail
  refine (awake_any _).mono ?_
  rintro e w6 ⟨rfl, h6⟩
  go_wp2
  go_ret
  exact ⟨rfl, h6⟩

set_option maxRecDepth 100000 in
set_option maxHeartbeats 4000000 in
theorem way_few {H : Type} {enc : TypeId × Value → H} {base : Nat} {spare : Nat → Bool} {held : Bool} (a : Option Addr) (cap len : Nat) (xs : List Int) (c : Option Addr) (cap2 len2 : Nat) (w : World) (hlen : xs.length = len) (hs : len ≤ 16) (hN : Nums w a xs) (hE : sumE xs = 0) (hnil : a = none → len = 0)
    (hM : FlatRow enc Try.prog w base spare held c 4 len2 [(0, 3), (1, 3), (2, 3), (3, 33)]) (hl2 : len2 ≤ 60) :
    Calls Try.prog 3 #[.slice a len cap, .slice c len2 cap2] w fun e w' => e = .returned (.bool true) ∧ Below w.heap.size w w' := by
  have HN := Lib.hid hN
  have HM := Lib.hid hM
  have HL := Lib.hid hlen
  have hm2 := hM.2.1
  unfold maxLen at hm2
  have HNil := Lib.hid hnil
  have HE := Lib.hid hE
  clear hE hN hlen hM hnil
  go_enter Try.func3, Try.ntmps3
  go_wp2_with fail
  refine (new_ok a cap len xs w HL.out hs HN.out HE.out).mono ?_
  rintro e w1 ⟨b, g, rfl, hA, hB, hb, hg⟩
  have HA : Hid (AtT w1 b g (fresh xs) 0) := Lib.hid hA
  have HB := Lib.hid hB
  have HN1 := Lib.hid (HN.out.below hB)
  clear hA hB
  go_wp2_with fail
  refine (rnew_ok a cap len xs w1 HL.out hs HN1.out HE.out HNil.out).mono ?_
  rintro e w2 ⟨bm, gh, gn, cm, sp, rfl, hR, hB, hbm, hgh, hgn⟩
  have HR := Lib.hid hR
  have HA2 := Lib.hid (HA.out.keep hB)
  have HB2 := Lib.hid (HB.out.trans (hB.mono HB.out.size))
  have HN2 := Lib.hid (HN1.out.below hB)
  have hs1 := HB.out.size
  clear hR hB HA HN1
  go_wp2_with fail
  refine (new_ok a cap len xs w2 HL.out hs HN2.out HE.out).mono ?_
  rintro e w3 ⟨b1, g1, rfl, hA, hB, hb1, hg1⟩
  have HF : Hid (AtT w3 b1 g1 (fresh xs) 0) := Lib.hid hA
  have hbl := HA2.out.top.lt
  have hgl := HA2.out.row.lt
  have HA3 := Lib.hid (HA2.out.keep hB)
  have HR3 := Lib.hid (HR.out.keep hB)
  have HB3 := Lib.hid (HB2.out.trans (hB.mono HB2.out.size))
  have hs2 := hB.size
  clear hA hB HA2 HR
  go_wp2_with fail
  refine (twin_any b g _ 0 w3 HA3.out).mono ?_
  rintro e w4 ⟨b2, g2, rfl, hA, hB, hb2, hg2⟩
  have HZ : Hid (St w w4 b g bm gh gn cm sp b1 g1 b2 g2 xs (fresh xs) 0 (fresh xs) 0) := Lib.hid
    ⟨HA3.out.keep hB, HR3.out.keep hB, HF.out.keep hB, hA, HB3.out.trans (hB.mono HB3.out.size), by omega, by omega, by omega, by omega, hb, hg, by omega, by omega, by omega⟩
  clear hA hB HA3 HR3 HF HB HB2 HB3 HN2 hb hg hbm hgh hgn hs1 hs2 hb1 hg1 hbl hgl hb2 hg2
  go_wp2_with fail
  refine (all_any b g _ 0 w4 HZ.out.T).mono ?_
  rintro e w5 ⟨rfl, hB⟩
  have HZ5 := Lib.hid (HZ.out.keep hB)
  clear hB HZ
  obtain ⟨A0, hA0⟩ : ∃ A0, allS 0 (fresh xs) = A0 := ⟨_, rfl⟩
  have HA0 := Lib.hid hA0
  rw [hA0]
  clear hA0
  go_wp2
  go_loopw [13, 14, 15, 52, 61, 76, 91, 106] (fun _ _ _ i _ _ _ _ wd => ∃ (k : Nat) (l : List (Int × Int)) (kp : Int), k ≤ len2 ∧ i = .int .i64 k ∧ Hid (allS kp l = A0) ∧ Hid (St w wd b g bm gh gn cm sp b1 g1 b2 g2 xs l kp l kp)) (fun _ _ _ i _ _ _ _ _ => len2 - (intOf i).toNat)
  case atStart => exact ⟨0, _, _, Nat.zero_le _, rfl, HA0, HZ5⟩
  case round =>
    clear HZ5
    obtain ⟨k, l, kp, hk, rfl, HAl, HZ⟩ := hrel
    by_cases hlt : k < len2
    · obtain ⟨b0, off, rfl, hb0, cs, hcs, hp⟩ := HM.out.row (i := k) (by omega)
      obtain ⟨z0, c0, w0⟩ := (hp 0 3 (by simp)).int Try.underlying3
      obtain ⟨z1, c1, w1⟩ := (hp 1 3 (by simp)).int Try.underlying3
      obtain ⟨z2, c2, w2⟩ := (hp 2 3 (by simp)).int Try.underlying3
      obtain ⟨z3, c3, w3⟩ := (hp 3 33 (by simp)).int Try.underlying33
      have e0 : w.cell? ⟨b0, off + k * 4, none⟩ = _ := hcs 0 _ c0
      have e1 := hcs 1 _ c1
      have e2 := hcs 2 _ c2
      have e3 := hcs 3 _ c3
      rw [← HZ.out.W.cell hb0] at e0 e1 e2 e3
      have HW3 := Lib.hid (word_wf w3)
      have hd60 : decide ((60 : Int) ≤ k) = false := decide_eq_false (by omega)
      clear hp hcs c0 c1 c2 c3 w0 w1 w2 w3
      have hBo : Below wr.heap.size wr (wr.alloc (.cells #[.int .i64 z0, .int .i64 z1, .int .i64 z2, .int .u64 z3] 36)) := (Below.refl _ _).alloc (Nat.le_refl _) _
      have Z := Lib.hid (HZ.out.keep hBo)
      have O : Hid (Blk (wr.alloc (.cells #[.int .i64 z0, .int .i64 z1, .int .i64 z2, .int .u64 z3] 36)) wr.heap.size 36 [.int .i64 z0, .int .i64 z1, .int .i64 z2, .int .u64 z3]) := Lib.hid (Blk.new wr 36 _)
      clear hBo
      by_cases hz0 : z0 = 0
      · subst hz0
        go_wp2_with fail
        generalize wr.alloc (.cells #[.int .i64 0, .int .i64 z1, .int .i64 z2, .int .u64 z3] 36) = W at Z O ⊢
        generalize wr.heap.size = go at O ⊢
        have hBz : Below W.heap.size W W.drew := below_drewN (Below.refl _ _) 1
        have ZX0 : Hid (St w W.drew b g bm gh gn cm sp b1 g1 b2 g2 xs l kp l kp) := Lib.hid (Z.out.keep hBz)
        have OX0 : Hid (Blk W.drew go 36 [.int .i64 0, .int .i64 z1, .int .i64 z2, .int .u64 z3]) := Lib.hid (O.out.below hBz O.out.lt)
        clear hBz
        refine wp_region_held_drew (S := fun w' => Blk w' go 36 [.int .i64 0, .int .i64 z1, .int .i64 z2, .int .u64 z3]) (by kernel_rfl) (OX0.out) (fun hHeld => ?_)
        generalize W.drew = X0 at hHeld ZX0 OX0 ⊢
        refine wpAnyH_take (i := 0) (v := .pointer (some ⟨b, 0, none⟩)) rfl (by kernel_rfl) (by kernel_rfl) (by kernel_rfl) (fun _ _ _ h => h) (Or.inl ⟨by rfl, fun w _ => by rfl⟩) hHeld ?_
        show wpAnyH _ _ _ _ _ _ _ (Act.put _ (some 63) _) _
        simp only [Act.put, List.setIfInBounds_toArray, List.set_cons_zero, List.set_cons_succ]
        refine wpAnyH_take (i := 1) (v := .pointer (some ⟨go, 1, none⟩)) rfl (by kernel_rfl) (by kernel_rfl) (by kernel_rfl) (fun _ _ _ h => h) (Or.inl ⟨by rfl, by intro w' h; go_simp⟩) hHeld ?_
        show wpAnyH _ _ _ _ _ _ _ (Act.put _ (some 64) _) _
        simp only [Act.put, List.setIfInBounds_toArray, List.set_cons_zero, List.set_cons_succ]
        refine wpAnyH_take (i := 2) (v := .int .i64 z1) rfl (by kernel_rfl) (by kernel_rfl) (by kernel_rfl) (fun _ _ _ h => h) (Or.inl ⟨by rfl, by intro w' h; have := Blk.cell h 1; go_simp⟩) hHeld ?_
        show wpAnyH _ _ _ _ _ _ _ (Act.put _ (some 65) _) _
        simp only [Act.put, List.setIfInBounds_toArray, List.set_cons_zero, List.set_cons_succ]
        refine wpAnyH_take (i := 3) (v := .pointer (some ⟨go, 3, none⟩)) rfl (by kernel_rfl) (by kernel_rfl) (by kernel_rfl) (fun _ _ _ h => h) (Or.inl ⟨by rfl, by intro w' h; go_simp⟩) hHeld ?_
        show wpAnyH _ _ _ _ _ _ _ (Act.put _ (some 66) _) _
        simp only [Act.put, List.setIfInBounds_toArray, List.set_cons_zero, List.set_cons_succ]
        refine wpAnyH_take (i := 4) (v := .int .u64 z3) rfl (by kernel_rfl) (by kernel_rfl) (by kernel_rfl) (fun _ _ _ h => h) (Or.inl ⟨by rfl, by intro w' h; have := Blk.cell h 3; go_simp⟩) hHeld ?_
        show wpAnyH _ _ _ _ _ _ _ (Act.put _ (some 67) _) _
        simp only [Act.put, List.setIfInBounds_toArray, List.set_cons_zero, List.set_cons_succ]
        refine wpAnyH_take (i := 6) (v := .pointer (some ⟨bm, 0, none⟩)) rfl (by kernel_rfl) (by kernel_rfl) (by kernel_rfl) (fun _ _ _ h => h) (Or.inl ⟨by rfl, fun w _ => by rfl⟩) hHeld ?_
        show wpAnyH _ _ _ _ _ _ _ (Act.put _ (some 69) _) _
        simp only [Act.put, List.setIfInBounds_toArray, List.set_cons_zero, List.set_cons_succ]
        refine wpAnyH_take (i := 7) (v := .pointer (some ⟨go, 1, none⟩)) rfl (by kernel_rfl) (by kernel_rfl) (by kernel_rfl) (fun _ _ _ h => h) (Or.inl ⟨by rfl, by intro w' h; go_simp⟩) hHeld ?_
        show wpAnyH _ _ _ _ _ _ _ (Act.put _ (some 70) _) _
        simp only [Act.put, List.setIfInBounds_toArray, List.set_cons_zero, List.set_cons_succ]
        refine wpAnyH_take (i := 8) (v := .int .i64 z1) rfl (by kernel_rfl) (by kernel_rfl) (by kernel_rfl) (fun _ _ _ h => h) (Or.inl ⟨by rfl, by intro w' h; have := Blk.cell h 1; go_simp⟩) hHeld ?_
        show wpAnyH _ _ _ _ _ _ _ (Act.put _ (some 71) _) _
        simp only [Act.put, List.setIfInBounds_toArray, List.set_cons_zero, List.set_cons_succ]
        refine wpAnyH_take (i := 9) (v := .pointer (some ⟨go, 3, none⟩)) rfl (by kernel_rfl) (by kernel_rfl) (by kernel_rfl) (fun _ _ _ h => h) (Or.inl ⟨by rfl, by intro w' h; go_simp⟩) hHeld ?_
        show wpAnyH _ _ _ _ _ _ _ (Act.put _ (some 72) _) _
        simp only [Act.put, List.setIfInBounds_toArray, List.set_cons_zero, List.set_cons_succ]
        refine wpAnyH_take (i := 10) (v := .int .u64 z3) rfl (by kernel_rfl) (by kernel_rfl) (by kernel_rfl) (fun _ _ _ h => h) (Or.inl ⟨by rfl, by intro w' h; have := Blk.cell h 3; go_simp⟩) hHeld ?_
        show wpAnyH _ _ _ _ _ _ _ (Act.put _ (some 73) _) _
        simp only [Act.put, List.setIfInBounds_toArray, List.set_cons_zero, List.set_cons_succ]
        refine wpAnyH_ready (rs := [5]) (by kernel_rfl) (by simp) ?_
        refine AllReadyH.cons rfl (fun K hK => ?_) AllReadyH.nil
        refine step_call rfl 12 #[.tmp 63, .tmp 65, .tmp 67] #[24, 3, 33] rfl #[.pointer (some ⟨b, 0, none⟩), .int .i64 z1, .int .u64 z3] (by simp [Act.eval]) (by go_simp) (order_any b g l kp z1 z3 X0 ZX0.out.T HW3.out) ?_
        rintro e X1 ⟨rfl, hA, hO⟩
        have ZX1 : Hid (St w X1 b g bm gh gn cm sp b1 g1 b2 g2 xs (ordL l z1 z3) kp l kp) := Lib.hid (ZX0.out.till hA hO)
        have OX1 : Hid (Blk X1 go 36 [.int .i64 0, .int .i64 z1, .int .i64 z2, .int .u64 z3]) := Lib.hid (ZX0.out.opT OX0.out hO)
        clear  hA hO
        refine ⟨_, rfl, hK.out _ _ (OX1.out) (fun hHeld => ?_)⟩
        clear hK K
        show wpAnyH _ _ _ _ _ _ _ (Act.put _ (some 68) _) _
        simp only [Act.put, List.setIfInBounds_toArray, List.set_cons_zero, List.set_cons_succ]
        refine wpAnyH_ready (rs := [11]) (by kernel_rfl) (by simp) ?_
        refine AllReadyH.cons rfl (fun K hK => ?_) AllReadyH.nil
        refine step_call rfl 13 #[.tmp 69, .tmp 71, .tmp 73] #[28, 3, 33] rfl #[.pointer (some ⟨bm, 0, none⟩), .int .i64 z1, .int .u64 z3] (by simp [Act.eval]) (by go_simp) (rorder_any bm gh gn cm sp l kp z1 z3 X1 ZX1.out.R HW3.out) ?_
        rintro e X2 ⟨rfl, hR, hO⟩
        have ZX2 : Hid (St w X2 b g bm gh gn cm sp b1 g1 b2 g2 xs (ordL l z1 z3) kp (ordL l z1 z3) kp) := Lib.hid (ZX1.out.ref hR hO)
        have OX2 : Hid (Blk X2 go 36 [.int .i64 0, .int .i64 z1, .int .i64 z2, .int .u64 z3]) := Lib.hid (ZX1.out.opR OX1.out hO)
        clear  hR hO
        refine ⟨_, rfl, hK.out _ _ (OX2.out) (fun hHeld => ?_)⟩
        clear hK K
        show wpAnyH _ _ _ _ _ _ _ (Act.put _ (some 74) _) _
        simp only [Act.put, List.setIfInBounds_toArray, List.set_cons_zero, List.set_cons_succ]
        refine wpAnyH_take (i := 12) (v := .bool true) rfl (by kernel_rfl) (by kernel_rfl) (by kernel_rfl) (fun _ _ _ h => h) (Or.inl ⟨by rfl, by intro w' h; go_simp⟩) hHeld ?_
        show wpAnyH _ _ _ _ _ _ _ (Act.put _ (some 75) _) _
        simp only [Act.put, List.setIfInBounds_toArray, List.set_cons_zero, List.set_cons_succ]
        refine wpAnyH_take (i := 13) (v := .bool true) rfl (by kernel_rfl) (by kernel_rfl) (by kernel_rfl) (fun _ _ _ h => h) (Or.inl ⟨by rfl, fun w _ => by rfl⟩) hHeld ?_
        show wpAnyH _ _ _ _ _ _ _ (Act.put _ (some 15) _) _
        simp only [Act.put, List.setIfInBounds_toArray, List.set_cons_zero, List.set_cons_succ]
        refine wpAnyH_done (by kernel_rfl) ?_ _
        clear hHeld
        have HA7 : Hid (allS kp (ordL l z1 z3) = A0) := Lib.hid ((all_ord l kp z1 z3 HZ.out.T.kept).trans HAl.out)
        go_wp2_with fail
        refine (is_any b g bm gh gn cm sp _ _ X2 ZX2.out.T ZX2.out.R).mono ?_
        rintro e w6 ⟨rfl, hB⟩
        have HZ6 := Lib.hid (ZX2.out.keep hB)
        clear hB
        go_wp2_with fail
        refine (all_any b g _ _ w6 HZ6.out.T).mono ?_
        rintro e w7 ⟨rfl, hB⟩
        have HZ7 := Lib.hid (HZ6.out.keep hB)
        clear hB
        rw [HA7.out]
        go_wp2
        go_roundw
        case rel => exact ⟨k + 1, _, _, by omega, by go_num, HA7, HZ7⟩
        case measure => simp [intOf] <;> omega
      by_cases hz1 : z0 = 1
      · subst hz1
        go_wp2_with fail
        generalize wr.alloc (.cells #[.int .i64 1, .int .i64 z1, .int .i64 z2, .int .u64 z3] 36) = W at Z O ⊢
        generalize wr.heap.size = go at O ⊢
        have hBz : Below W.heap.size W W.drew := below_drewN (Below.refl _ _) 1
        have ZX0 : Hid (St w W.drew b g bm gh gn cm sp b1 g1 b2 g2 xs l kp l kp) := Lib.hid (Z.out.keep hBz)
        have OX0 : Hid (Blk W.drew go 36 [.int .i64 1, .int .i64 z1, .int .i64 z2, .int .u64 z3]) := Lib.hid (O.out.below hBz O.out.lt)
        clear hBz
        refine wp_region_held_drew (S := fun w' => Blk w' go 36 [.int .i64 1, .int .i64 z1, .int .i64 z2, .int .u64 z3]) (by kernel_rfl) (OX0.out) (fun hHeld => ?_)
        generalize W.drew = X0 at hHeld ZX0 OX0 ⊢
        refine wpAnyH_take (i := 0) (v := .pointer (some ⟨b, 0, none⟩)) rfl (by kernel_rfl) (by kernel_rfl) (by kernel_rfl) (fun _ _ _ h => h) (Or.inl ⟨by rfl, fun w _ => by rfl⟩) hHeld ?_
        show wpAnyH _ _ _ _ _ _ _ (Act.put _ (some 78) _) _
        simp only [Act.put, List.setIfInBounds_toArray, List.set_cons_zero, List.set_cons_succ]
        refine wpAnyH_take (i := 1) (v := .pointer (some ⟨go, 1, none⟩)) rfl (by kernel_rfl) (by kernel_rfl) (by kernel_rfl) (fun _ _ _ h => h) (Or.inl ⟨by rfl, by intro w' h; go_simp⟩) hHeld ?_
        show wpAnyH _ _ _ _ _ _ _ (Act.put _ (some 79) _) _
        simp only [Act.put, List.setIfInBounds_toArray, List.set_cons_zero, List.set_cons_succ]
        refine wpAnyH_take (i := 2) (v := .int .i64 z1) rfl (by kernel_rfl) (by kernel_rfl) (by kernel_rfl) (fun _ _ _ h => h) (Or.inl ⟨by rfl, by intro w' h; have := Blk.cell h 1; go_simp⟩) hHeld ?_
        show wpAnyH _ _ _ _ _ _ _ (Act.put _ (some 80) _) _
        simp only [Act.put, List.setIfInBounds_toArray, List.set_cons_zero, List.set_cons_succ]
        refine wpAnyH_take (i := 3) (v := .pointer (some ⟨go, 3, none⟩)) rfl (by kernel_rfl) (by kernel_rfl) (by kernel_rfl) (fun _ _ _ h => h) (Or.inl ⟨by rfl, by intro w' h; go_simp⟩) hHeld ?_
        show wpAnyH _ _ _ _ _ _ _ (Act.put _ (some 81) _) _
        simp only [Act.put, List.setIfInBounds_toArray, List.set_cons_zero, List.set_cons_succ]
        refine wpAnyH_take (i := 4) (v := .int .u64 z3) rfl (by kernel_rfl) (by kernel_rfl) (by kernel_rfl) (fun _ _ _ h => h) (Or.inl ⟨by rfl, by intro w' h; have := Blk.cell h 3; go_simp⟩) hHeld ?_
        show wpAnyH _ _ _ _ _ _ _ (Act.put _ (some 82) _) _
        simp only [Act.put, List.setIfInBounds_toArray, List.set_cons_zero, List.set_cons_succ]
        refine wpAnyH_take (i := 6) (v := .pointer (some ⟨bm, 0, none⟩)) rfl (by kernel_rfl) (by kernel_rfl) (by kernel_rfl) (fun _ _ _ h => h) (Or.inl ⟨by rfl, fun w _ => by rfl⟩) hHeld ?_
        show wpAnyH _ _ _ _ _ _ _ (Act.put _ (some 84) _) _
        simp only [Act.put, List.setIfInBounds_toArray, List.set_cons_zero, List.set_cons_succ]
        refine wpAnyH_take (i := 7) (v := .pointer (some ⟨go, 1, none⟩)) rfl (by kernel_rfl) (by kernel_rfl) (by kernel_rfl) (fun _ _ _ h => h) (Or.inl ⟨by rfl, by intro w' h; go_simp⟩) hHeld ?_
        show wpAnyH _ _ _ _ _ _ _ (Act.put _ (some 85) _) _
        simp only [Act.put, List.setIfInBounds_toArray, List.set_cons_zero, List.set_cons_succ]
        refine wpAnyH_take (i := 8) (v := .int .i64 z1) rfl (by kernel_rfl) (by kernel_rfl) (by kernel_rfl) (fun _ _ _ h => h) (Or.inl ⟨by rfl, by intro w' h; have := Blk.cell h 1; go_simp⟩) hHeld ?_
        show wpAnyH _ _ _ _ _ _ _ (Act.put _ (some 86) _) _
        simp only [Act.put, List.setIfInBounds_toArray, List.set_cons_zero, List.set_cons_succ]
        refine wpAnyH_take (i := 9) (v := .pointer (some ⟨go, 3, none⟩)) rfl (by kernel_rfl) (by kernel_rfl) (by kernel_rfl) (fun _ _ _ h => h) (Or.inl ⟨by rfl, by intro w' h; go_simp⟩) hHeld ?_
        show wpAnyH _ _ _ _ _ _ _ (Act.put _ (some 87) _) _
        simp only [Act.put, List.setIfInBounds_toArray, List.set_cons_zero, List.set_cons_succ]
        refine wpAnyH_take (i := 10) (v := .int .u64 z3) rfl (by kernel_rfl) (by kernel_rfl) (by kernel_rfl) (fun _ _ _ h => h) (Or.inl ⟨by rfl, by intro w' h; have := Blk.cell h 3; go_simp⟩) hHeld ?_
        show wpAnyH _ _ _ _ _ _ _ (Act.put _ (some 88) _) _
        simp only [Act.put, List.setIfInBounds_toArray, List.set_cons_zero, List.set_cons_succ]
        refine wpAnyH_ready (rs := [5]) (by kernel_rfl) (by simp) ?_
        refine AllReadyH.cons rfl (fun K hK => ?_) AllReadyH.nil
        refine step_call rfl 14 #[.tmp 78, .tmp 80, .tmp 82] #[24, 3, 33] rfl #[.pointer (some ⟨b, 0, none⟩), .int .i64 z1, .int .u64 z3] (by simp [Act.eval]) (by go_simp) (keep_any b g l kp z1 z3 X0 ZX0.out.T HW3.out) ?_
        rintro e X1 ⟨rfl, hA, hO⟩
        have ZX1 : Hid (St w X1 b g bm gh gn cm sp b1 g1 b2 g2 xs (keepL l z1 z3) (keepK l kp z1 z3) l kp) := Lib.hid (ZX0.out.till hA hO)
        have OX1 : Hid (Blk X1 go 36 [.int .i64 1, .int .i64 z1, .int .i64 z2, .int .u64 z3]) := Lib.hid (ZX0.out.opT OX0.out hO)
        clear  hA hO
        refine ⟨_, rfl, hK.out _ _ (OX1.out) (fun hHeld => ?_)⟩
        clear hK K
        show wpAnyH _ _ _ _ _ _ _ (Act.put _ (some 83) _) _
        simp only [Act.put, List.setIfInBounds_toArray, List.set_cons_zero, List.set_cons_succ]
        refine wpAnyH_ready (rs := [11]) (by kernel_rfl) (by simp) ?_
        refine AllReadyH.cons rfl (fun K hK => ?_) AllReadyH.nil
        refine step_call rfl 15 #[.tmp 84, .tmp 86, .tmp 88] #[28, 3, 33] rfl #[.pointer (some ⟨bm, 0, none⟩), .int .i64 z1, .int .u64 z3] (by simp [Act.eval]) (by go_simp) (rkeep_any bm gh gn cm sp l kp z1 z3 X1 ZX1.out.R HW3.out) ?_
        rintro e X2 ⟨rfl, hR, hO⟩
        have ZX2 : Hid (St w X2 b g bm gh gn cm sp b1 g1 b2 g2 xs (keepL l z1 z3) (keepK l kp z1 z3) (keepL l z1 z3) (keepK l kp z1 z3)) := Lib.hid (ZX1.out.ref hR hO)
        have OX2 : Hid (Blk X2 go 36 [.int .i64 1, .int .i64 z1, .int .i64 z2, .int .u64 z3]) := Lib.hid (ZX1.out.opR OX1.out hO)
        clear  hR hO
        refine ⟨_, rfl, hK.out _ _ (OX2.out) (fun hHeld => ?_)⟩
        clear hK K
        show wpAnyH _ _ _ _ _ _ _ (Act.put _ (some 89) _) _
        simp only [Act.put, List.setIfInBounds_toArray, List.set_cons_zero, List.set_cons_succ]
        refine wpAnyH_take (i := 12) (v := .bool true) rfl (by kernel_rfl) (by kernel_rfl) (by kernel_rfl) (fun _ _ _ h => h) (Or.inl ⟨by rfl, by intro w' h; go_simp⟩) hHeld ?_
        show wpAnyH _ _ _ _ _ _ _ (Act.put _ (some 90) _) _
        simp only [Act.put, List.setIfInBounds_toArray, List.set_cons_zero, List.set_cons_succ]
        refine wpAnyH_take (i := 13) (v := .bool true) rfl (by kernel_rfl) (by kernel_rfl) (by kernel_rfl) (fun _ _ _ h => h) (Or.inl ⟨by rfl, fun w _ => by rfl⟩) hHeld ?_
        show wpAnyH _ _ _ _ _ _ _ (Act.put _ (some 15) _) _
        simp only [Act.put, List.setIfInBounds_toArray, List.set_cons_zero, List.set_cons_succ]
        refine wpAnyH_done (by kernel_rfl) ?_ _
        clear hHeld
        have HA7 : Hid (allS (keepK l kp z1 z3) (keepL l z1 z3) = A0) := Lib.hid ((all_keep l kp z1 z3 HZ.out.T.kept).trans HAl.out)
        go_wp2_with fail
        refine (is_any b g bm gh gn cm sp _ _ X2 ZX2.out.T ZX2.out.R).mono ?_
        rintro e w6 ⟨rfl, hB⟩
        have HZ6 := Lib.hid (ZX2.out.keep hB)
        clear hB
        go_wp2_with fail
        refine (all_any b g _ _ w6 HZ6.out.T).mono ?_
        rintro e w7 ⟨rfl, hB⟩
        have HZ7 := Lib.hid (HZ6.out.keep hB)
        clear hB
        rw [HA7.out]
        go_wp2
        go_roundw
        case rel => exact ⟨k + 1, _, _, by omega, by go_num, HA7, HZ7⟩
        case measure => simp [intOf] <;> omega
      by_cases hz2 : z0 = 2
      · subst hz2
        go_wp2_with fail
        generalize wr.alloc (.cells #[.int .i64 2, .int .i64 z1, .int .i64 z2, .int .u64 z3] 36) = W at Z O ⊢
        generalize wr.heap.size = go at O ⊢
        have hBz : Below W.heap.size W W.drew := below_drewN (Below.refl _ _) 1
        have ZX0 : Hid (St w W.drew b g bm gh gn cm sp b1 g1 b2 g2 xs l kp l kp) := Lib.hid (Z.out.keep hBz)
        have OX0 : Hid (Blk W.drew go 36 [.int .i64 2, .int .i64 z1, .int .i64 z2, .int .u64 z3]) := Lib.hid (O.out.below hBz O.out.lt)
        clear hBz
        refine wp_region_held_drew (S := fun w' => Blk w' go 36 [.int .i64 2, .int .i64 z1, .int .i64 z2, .int .u64 z3]) (by kernel_rfl) (OX0.out) (fun hHeld => ?_)
        generalize W.drew = X0 at hHeld ZX0 OX0 ⊢
        refine wpAnyH_take (i := 0) (v := .pointer (some ⟨b, 0, none⟩)) rfl (by kernel_rfl) (by kernel_rfl) (by kernel_rfl) (fun _ _ _ h => h) (Or.inl ⟨by rfl, fun w _ => by rfl⟩) hHeld ?_
        show wpAnyH _ _ _ _ _ _ _ (Act.put _ (some 93) _) _
        simp only [Act.put, List.setIfInBounds_toArray, List.set_cons_zero, List.set_cons_succ]
        refine wpAnyH_take (i := 1) (v := .pointer (some ⟨go, 1, none⟩)) rfl (by kernel_rfl) (by kernel_rfl) (by kernel_rfl) (fun _ _ _ h => h) (Or.inl ⟨by rfl, by intro w' h; go_simp⟩) hHeld ?_
        show wpAnyH _ _ _ _ _ _ _ (Act.put _ (some 94) _) _
        simp only [Act.put, List.setIfInBounds_toArray, List.set_cons_zero, List.set_cons_succ]
        refine wpAnyH_take (i := 2) (v := .int .i64 z1) rfl (by kernel_rfl) (by kernel_rfl) (by kernel_rfl) (fun _ _ _ h => h) (Or.inl ⟨by rfl, by intro w' h; have := Blk.cell h 1; go_simp⟩) hHeld ?_
        show wpAnyH _ _ _ _ _ _ _ (Act.put _ (some 95) _) _
        simp only [Act.put, List.setIfInBounds_toArray, List.set_cons_zero, List.set_cons_succ]
        refine wpAnyH_take (i := 3) (v := .pointer (some ⟨go, 3, none⟩)) rfl (by kernel_rfl) (by kernel_rfl) (by kernel_rfl) (fun _ _ _ h => h) (Or.inl ⟨by rfl, by intro w' h; go_simp⟩) hHeld ?_
        show wpAnyH _ _ _ _ _ _ _ (Act.put _ (some 96) _) _
        simp only [Act.put, List.setIfInBounds_toArray, List.set_cons_zero, List.set_cons_succ]
        refine wpAnyH_take (i := 4) (v := .int .u64 z3) rfl (by kernel_rfl) (by kernel_rfl) (by kernel_rfl) (fun _ _ _ h => h) (Or.inl ⟨by rfl, by intro w' h; have := Blk.cell h 3; go_simp⟩) hHeld ?_
        show wpAnyH _ _ _ _ _ _ _ (Act.put _ (some 97) _) _
        simp only [Act.put, List.setIfInBounds_toArray, List.set_cons_zero, List.set_cons_succ]
        refine wpAnyH_take (i := 6) (v := .pointer (some ⟨bm, 0, none⟩)) rfl (by kernel_rfl) (by kernel_rfl) (by kernel_rfl) (fun _ _ _ h => h) (Or.inl ⟨by rfl, fun w _ => by rfl⟩) hHeld ?_
        show wpAnyH _ _ _ _ _ _ _ (Act.put _ (some 99) _) _
        simp only [Act.put, List.setIfInBounds_toArray, List.set_cons_zero, List.set_cons_succ]
        refine wpAnyH_take (i := 7) (v := .pointer (some ⟨go, 1, none⟩)) rfl (by kernel_rfl) (by kernel_rfl) (by kernel_rfl) (fun _ _ _ h => h) (Or.inl ⟨by rfl, by intro w' h; go_simp⟩) hHeld ?_
        show wpAnyH _ _ _ _ _ _ _ (Act.put _ (some 100) _) _
        simp only [Act.put, List.setIfInBounds_toArray, List.set_cons_zero, List.set_cons_succ]
        refine wpAnyH_take (i := 8) (v := .int .i64 z1) rfl (by kernel_rfl) (by kernel_rfl) (by kernel_rfl) (fun _ _ _ h => h) (Or.inl ⟨by rfl, by intro w' h; have := Blk.cell h 1; go_simp⟩) hHeld ?_
        show wpAnyH _ _ _ _ _ _ _ (Act.put _ (some 101) _) _
        simp only [Act.put, List.setIfInBounds_toArray, List.set_cons_zero, List.set_cons_succ]
        refine wpAnyH_take (i := 9) (v := .pointer (some ⟨go, 3, none⟩)) rfl (by kernel_rfl) (by kernel_rfl) (by kernel_rfl) (fun _ _ _ h => h) (Or.inl ⟨by rfl, by intro w' h; go_simp⟩) hHeld ?_
        show wpAnyH _ _ _ _ _ _ _ (Act.put _ (some 102) _) _
        simp only [Act.put, List.setIfInBounds_toArray, List.set_cons_zero, List.set_cons_succ]
        refine wpAnyH_take (i := 10) (v := .int .u64 z3) rfl (by kernel_rfl) (by kernel_rfl) (by kernel_rfl) (fun _ _ _ h => h) (Or.inl ⟨by rfl, by intro w' h; have := Blk.cell h 3; go_simp⟩) hHeld ?_
        show wpAnyH _ _ _ _ _ _ _ (Act.put _ (some 103) _) _
        simp only [Act.put, List.setIfInBounds_toArray, List.set_cons_zero, List.set_cons_succ]
        refine wpAnyH_ready (rs := [5]) (by kernel_rfl) (by simp) ?_
        refine AllReadyH.cons rfl (fun K hK => ?_) AllReadyH.nil
        refine step_call rfl 16 #[.tmp 93, .tmp 95, .tmp 97] #[24, 3, 33] rfl #[.pointer (some ⟨b, 0, none⟩), .int .i64 z1, .int .u64 z3] (by simp [Act.eval]) (by go_simp) (give_any b g l kp z1 z3 X0 ZX0.out.T HW3.out) ?_
        rintro e X1 ⟨rfl, hA, hO⟩
        have ZX1 : Hid (St w X1 b g bm gh gn cm sp b1 g1 b2 g2 xs (giveL l kp z1 z3) (giveK l kp z1 z3) l kp) := Lib.hid (ZX0.out.till hA hO)
        have OX1 : Hid (Blk X1 go 36 [.int .i64 2, .int .i64 z1, .int .i64 z2, .int .u64 z3]) := Lib.hid (ZX0.out.opT OX0.out hO)
        clear  hA hO
        refine ⟨_, rfl, hK.out _ _ (OX1.out) (fun hHeld => ?_)⟩
        clear hK K
        show wpAnyH _ _ _ _ _ _ _ (Act.put _ (some 98) _) _
        simp only [Act.put, List.setIfInBounds_toArray, List.set_cons_zero, List.set_cons_succ]
        refine wpAnyH_ready (rs := [11]) (by kernel_rfl) (by simp) ?_
        refine AllReadyH.cons rfl (fun K hK => ?_) AllReadyH.nil
        refine step_call rfl 17 #[.tmp 99, .tmp 101, .tmp 103] #[28, 3, 33] rfl #[.pointer (some ⟨bm, 0, none⟩), .int .i64 z1, .int .u64 z3] (by simp [Act.eval]) (by go_simp) (rgive_any bm gh gn cm sp l kp z1 z3 X1 ZX1.out.R HW3.out) ?_
        rintro e X2 ⟨rfl, hR, hO⟩
        have ZX2 : Hid (St w X2 b g bm gh gn cm sp b1 g1 b2 g2 xs (giveL l kp z1 z3) (giveK l kp z1 z3) (giveL l kp z1 z3) (giveK l kp z1 z3)) := Lib.hid (ZX1.out.ref hR hO)
        have OX2 : Hid (Blk X2 go 36 [.int .i64 2, .int .i64 z1, .int .i64 z2, .int .u64 z3]) := Lib.hid (ZX1.out.opR OX1.out hO)
        clear  hR hO
        refine ⟨_, rfl, hK.out _ _ (OX2.out) (fun hHeld => ?_)⟩
        clear hK K
        show wpAnyH _ _ _ _ _ _ _ (Act.put _ (some 104) _) _
        simp only [Act.put, List.setIfInBounds_toArray, List.set_cons_zero, List.set_cons_succ]
        refine wpAnyH_take (i := 12) (v := .bool true) rfl (by kernel_rfl) (by kernel_rfl) (by kernel_rfl) (fun _ _ _ h => h) (Or.inl ⟨by rfl, by intro w' h; go_simp⟩) hHeld ?_
        show wpAnyH _ _ _ _ _ _ _ (Act.put _ (some 105) _) _
        simp only [Act.put, List.setIfInBounds_toArray, List.set_cons_zero, List.set_cons_succ]
        refine wpAnyH_take (i := 13) (v := .bool true) rfl (by kernel_rfl) (by kernel_rfl) (by kernel_rfl) (fun _ _ _ h => h) (Or.inl ⟨by rfl, fun w _ => by rfl⟩) hHeld ?_
        show wpAnyH _ _ _ _ _ _ _ (Act.put _ (some 15) _) _
        simp only [Act.put, List.setIfInBounds_toArray, List.set_cons_zero, List.set_cons_succ]
        refine wpAnyH_done (by kernel_rfl) ?_ _
        clear hHeld
        have HA7 : Hid (allS (giveK l kp z1 z3) (giveL l kp z1 z3) = A0) := Lib.hid ((all_give l kp z1 z3 HZ.out.T.kept HW3.out).trans HAl.out)
        go_wp2_with fail
        refine (is_any b g bm gh gn cm sp _ _ X2 ZX2.out.T ZX2.out.R).mono ?_
        rintro e w6 ⟨rfl, hB⟩
        have HZ6 := Lib.hid (ZX2.out.keep hB)
        clear hB
        go_wp2_with fail
        refine (all_any b g _ _ w6 HZ6.out.T).mono ?_
        rintro e w7 ⟨rfl, hB⟩
        have HZ7 := Lib.hid (HZ6.out.keep hB)
        clear hB
        rw [HA7.out]
        go_wp2
        go_roundw
        case rel => exact ⟨k + 1, _, _, by omega, by go_num, HA7, HZ7⟩
        case measure => simp [intOf] <;> omega
      by_cases hz3 : z0 = 3
      · subst hz3
        go_wp2_with fail
        generalize wr.alloc (.cells #[.int .i64 3, .int .i64 z1, .int .i64 z2, .int .u64 z3] 36) = W at Z O ⊢
        generalize wr.heap.size = go at O ⊢
        have hBz : Below W.heap.size W W.drew := below_drewN (Below.refl _ _) 1
        have ZX0 : Hid (St w W.drew b g bm gh gn cm sp b1 g1 b2 g2 xs l kp l kp) := Lib.hid (Z.out.keep hBz)
        have OX0 : Hid (Blk W.drew go 36 [.int .i64 3, .int .i64 z1, .int .i64 z2, .int .u64 z3]) := Lib.hid (O.out.below hBz O.out.lt)
        clear hBz
        refine wp_region_held_drew (S := fun w' => Blk w' go 36 [.int .i64 3, .int .i64 z1, .int .i64 z2, .int .u64 z3]) (by kernel_rfl) (OX0.out) (fun hHeld => ?_)
        generalize W.drew = X0 at hHeld ZX0 OX0 ⊢
        refine wpAnyH_take (i := 0) (v := .pointer (some ⟨b, 0, none⟩)) rfl (by kernel_rfl) (by kernel_rfl) (by kernel_rfl) (fun _ _ _ h => h) (Or.inl ⟨by rfl, fun w _ => by rfl⟩) hHeld ?_
        show wpAnyH _ _ _ _ _ _ _ (Act.put _ (some 108) _) _
        simp only [Act.put, List.setIfInBounds_toArray, List.set_cons_zero, List.set_cons_succ]
        refine wpAnyH_take (i := 1) (v := .pointer (some ⟨go, 1, none⟩)) rfl (by kernel_rfl) (by kernel_rfl) (by kernel_rfl) (fun _ _ _ h => h) (Or.inl ⟨by rfl, by intro w' h; go_simp⟩) hHeld ?_
        show wpAnyH _ _ _ _ _ _ _ (Act.put _ (some 109) _) _
        simp only [Act.put, List.setIfInBounds_toArray, List.set_cons_zero, List.set_cons_succ]
        refine wpAnyH_take (i := 2) (v := .int .i64 z1) rfl (by kernel_rfl) (by kernel_rfl) (by kernel_rfl) (fun _ _ _ h => h) (Or.inl ⟨by rfl, by intro w' h; have := Blk.cell h 1; go_simp⟩) hHeld ?_
        show wpAnyH _ _ _ _ _ _ _ (Act.put _ (some 110) _) _
        simp only [Act.put, List.setIfInBounds_toArray, List.set_cons_zero, List.set_cons_succ]
        refine wpAnyH_take (i := 3) (v := .pointer (some ⟨go, 2, none⟩)) rfl (by kernel_rfl) (by kernel_rfl) (by kernel_rfl) (fun _ _ _ h => h) (Or.inl ⟨by rfl, by intro w' h; go_simp⟩) hHeld ?_
        show wpAnyH _ _ _ _ _ _ _ (Act.put _ (some 111) _) _
        simp only [Act.put, List.setIfInBounds_toArray, List.set_cons_zero, List.set_cons_succ]
        refine wpAnyH_take (i := 4) (v := .int .i64 z2) rfl (by kernel_rfl) (by kernel_rfl) (by kernel_rfl) (fun _ _ _ h => h) (Or.inl ⟨by rfl, by intro w' h; have := Blk.cell h 2; go_simp⟩) hHeld ?_
        show wpAnyH _ _ _ _ _ _ _ (Act.put _ (some 112) _) _
        simp only [Act.put, List.setIfInBounds_toArray, List.set_cons_zero, List.set_cons_succ]
        refine wpAnyH_take (i := 5) (v := .pointer (some ⟨go, 3, none⟩)) rfl (by kernel_rfl) (by kernel_rfl) (by kernel_rfl) (fun _ _ _ h => h) (Or.inl ⟨by rfl, by intro w' h; go_simp⟩) hHeld ?_
        show wpAnyH _ _ _ _ _ _ _ (Act.put _ (some 113) _) _
        simp only [Act.put, List.setIfInBounds_toArray, List.set_cons_zero, List.set_cons_succ]
        refine wpAnyH_take (i := 6) (v := .int .u64 z3) rfl (by kernel_rfl) (by kernel_rfl) (by kernel_rfl) (fun _ _ _ h => h) (Or.inl ⟨by rfl, by intro w' h; have := Blk.cell h 3; go_simp⟩) hHeld ?_
        show wpAnyH _ _ _ _ _ _ _ (Act.put _ (some 114) _) _
        simp only [Act.put, List.setIfInBounds_toArray, List.set_cons_zero, List.set_cons_succ]
        refine wpAnyH_take (i := 8) (v := .pointer (some ⟨bm, 0, none⟩)) rfl (by kernel_rfl) (by kernel_rfl) (by kernel_rfl) (fun _ _ _ h => h) (Or.inl ⟨by rfl, fun w _ => by rfl⟩) hHeld ?_
        show wpAnyH _ _ _ _ _ _ _ (Act.put _ (some 116) _) _
        simp only [Act.put, List.setIfInBounds_toArray, List.set_cons_zero, List.set_cons_succ]
        refine wpAnyH_take (i := 9) (v := .pointer (some ⟨go, 1, none⟩)) rfl (by kernel_rfl) (by kernel_rfl) (by kernel_rfl) (fun _ _ _ h => h) (Or.inl ⟨by rfl, by intro w' h; go_simp⟩) hHeld ?_
        show wpAnyH _ _ _ _ _ _ _ (Act.put _ (some 117) _) _
        simp only [Act.put, List.setIfInBounds_toArray, List.set_cons_zero, List.set_cons_succ]
        refine wpAnyH_take (i := 10) (v := .int .i64 z1) rfl (by kernel_rfl) (by kernel_rfl) (by kernel_rfl) (fun _ _ _ h => h) (Or.inl ⟨by rfl, by intro w' h; have := Blk.cell h 1; go_simp⟩) hHeld ?_
        show wpAnyH _ _ _ _ _ _ _ (Act.put _ (some 118) _) _
        simp only [Act.put, List.setIfInBounds_toArray, List.set_cons_zero, List.set_cons_succ]
        refine wpAnyH_take (i := 11) (v := .pointer (some ⟨go, 2, none⟩)) rfl (by kernel_rfl) (by kernel_rfl) (by kernel_rfl) (fun _ _ _ h => h) (Or.inl ⟨by rfl, by intro w' h; go_simp⟩) hHeld ?_
        show wpAnyH _ _ _ _ _ _ _ (Act.put _ (some 119) _) _
        simp only [Act.put, List.setIfInBounds_toArray, List.set_cons_zero, List.set_cons_succ]
        refine wpAnyH_take (i := 12) (v := .int .i64 z2) rfl (by kernel_rfl) (by kernel_rfl) (by kernel_rfl) (fun _ _ _ h => h) (Or.inl ⟨by rfl, by intro w' h; have := Blk.cell h 2; go_simp⟩) hHeld ?_
        show wpAnyH _ _ _ _ _ _ _ (Act.put _ (some 120) _) _
        simp only [Act.put, List.setIfInBounds_toArray, List.set_cons_zero, List.set_cons_succ]
        refine wpAnyH_take (i := 13) (v := .pointer (some ⟨go, 3, none⟩)) rfl (by kernel_rfl) (by kernel_rfl) (by kernel_rfl) (fun _ _ _ h => h) (Or.inl ⟨by rfl, by intro w' h; go_simp⟩) hHeld ?_
        show wpAnyH _ _ _ _ _ _ _ (Act.put _ (some 121) _) _
        simp only [Act.put, List.setIfInBounds_toArray, List.set_cons_zero, List.set_cons_succ]
        refine wpAnyH_take (i := 14) (v := .int .u64 z3) rfl (by kernel_rfl) (by kernel_rfl) (by kernel_rfl) (fun _ _ _ h => h) (Or.inl ⟨by rfl, by intro w' h; have := Blk.cell h 3; go_simp⟩) hHeld ?_
        show wpAnyH _ _ _ _ _ _ _ (Act.put _ (some 122) _) _
        simp only [Act.put, List.setIfInBounds_toArray, List.set_cons_zero, List.set_cons_succ]
        refine wpAnyH_ready (rs := [7]) (by kernel_rfl) (by simp) ?_
        refine AllReadyH.cons rfl (fun K hK => ?_) AllReadyH.nil
        refine step_call rfl 18 #[.tmp 108, .tmp 110, .tmp 112, .tmp 114] #[24, 3, 3, 33] rfl #[.pointer (some ⟨b, 0, none⟩), .int .i64 z1, .int .i64 z2, .int .u64 z3] (by simp [Act.eval]) (by go_simp) (move_any b g l kp z1 z2 z3 X0 ZX0.out.T HW3.out) ?_
        rintro e X1 ⟨rfl, hA, hO⟩
        have ZX1 : Hid (St w X1 b g bm gh gn cm sp b1 g1 b2 g2 xs (moveL l z1 z2 z3) kp l kp) := Lib.hid (ZX0.out.till hA hO)
        have OX1 : Hid (Blk X1 go 36 [.int .i64 3, .int .i64 z1, .int .i64 z2, .int .u64 z3]) := Lib.hid (ZX0.out.opT OX0.out hO)
        clear  hA hO
        refine ⟨_, rfl, hK.out _ _ (OX1.out) (fun hHeld => ?_)⟩
        clear hK K
        show wpAnyH _ _ _ _ _ _ _ (Act.put _ (some 115) _) _
        simp only [Act.put, List.setIfInBounds_toArray, List.set_cons_zero, List.set_cons_succ]
        refine wpAnyH_ready (rs := [15]) (by kernel_rfl) (by simp) ?_
        refine AllReadyH.cons rfl (fun K hK => ?_) AllReadyH.nil
        refine step_call rfl 19 #[.tmp 116, .tmp 118, .tmp 120, .tmp 122] #[28, 3, 3, 33] rfl #[.pointer (some ⟨bm, 0, none⟩), .int .i64 z1, .int .i64 z2, .int .u64 z3] (by simp [Act.eval]) (by go_simp) (rmove_any bm gh gn cm sp l kp z1 z2 z3 X1 ZX1.out.R HW3.out) ?_
        rintro e X2 ⟨rfl, hR, hO⟩
        have ZX2 : Hid (St w X2 b g bm gh gn cm sp b1 g1 b2 g2 xs (moveL l z1 z2 z3) kp (moveL l z1 z2 z3) kp) := Lib.hid (ZX1.out.ref hR hO)
        have OX2 : Hid (Blk X2 go 36 [.int .i64 3, .int .i64 z1, .int .i64 z2, .int .u64 z3]) := Lib.hid (ZX1.out.opR OX1.out hO)
        clear  hR hO
        refine ⟨_, rfl, hK.out _ _ (OX2.out) (fun hHeld => ?_)⟩
        clear hK K
        show wpAnyH _ _ _ _ _ _ _ (Act.put _ (some 123) _) _
        simp only [Act.put, List.setIfInBounds_toArray, List.set_cons_zero, List.set_cons_succ]
        refine wpAnyH_take (i := 16) (v := .bool true) rfl (by kernel_rfl) (by kernel_rfl) (by kernel_rfl) (fun _ _ _ h => h) (Or.inl ⟨by rfl, by intro w' h; go_simp⟩) hHeld ?_
        show wpAnyH _ _ _ _ _ _ _ (Act.put _ (some 124) _) _
        simp only [Act.put, List.setIfInBounds_toArray, List.set_cons_zero, List.set_cons_succ]
        refine wpAnyH_take (i := 17) (v := .bool true) rfl (by kernel_rfl) (by kernel_rfl) (by kernel_rfl) (fun _ _ _ h => h) (Or.inl ⟨by rfl, fun w _ => by rfl⟩) hHeld ?_
        show wpAnyH _ _ _ _ _ _ _ (Act.put _ (some 15) _) _
        simp only [Act.put, List.setIfInBounds_toArray, List.set_cons_zero, List.set_cons_succ]
        refine wpAnyH_done (by kernel_rfl) ?_ _
        clear hHeld
        have HA7 : Hid (allS kp (moveL l z1 z2 z3) = A0) := Lib.hid ((all_move l kp z1 z2 z3 HZ.out.T.kept).trans HAl.out)
        go_wp2_with fail
        refine (is_any b g bm gh gn cm sp _ _ X2 ZX2.out.T ZX2.out.R).mono ?_
        rintro e w6 ⟨rfl, hB⟩
        have HZ6 := Lib.hid (ZX2.out.keep hB)
        clear hB
        go_wp2_with fail
        refine (all_any b g _ _ w6 HZ6.out.T).mono ?_
        rintro e w7 ⟨rfl, hB⟩
        have HZ7 := Lib.hid (HZ6.out.keep hB)
        clear hB
        rw [HA7.out]
        go_wp2
        go_roundw
        case rel => exact ⟨k + 1, _, _, by omega, by go_num, HA7, HZ7⟩
        case measure => simp [intOf] <;> omega
      have hb0' : (z0 == 0) = false := by simpa using hz0
      have hb1' : (z0 == 1) = false := by simpa using hz1
      have hb2' : (z0 == 2) = false := by simpa using hz2
      have hb3' : (z0 == 3) = false := by simpa using hz3
      clear hz0 hz1 hz2 hz3
      go_wp2_with fail
      generalize wr.alloc (.cells #[.int .i64 z0, .int .i64 z1, .int .i64 z2, .int .u64 z3] 36) = W at Z O ⊢
      refine (is_any b g bm gh gn cm sp _ _ W Z.out.T Z.out.R).mono ?_
      rintro e w6 ⟨rfl, hB⟩
      have HZ6 := Lib.hid (Z.out.keep hB)
      clear hB
      go_wp2_with fail
      refine (all_any b g _ _ w6 HZ6.out.T).mono ?_
      rintro e w7 ⟨rfl, hB⟩
      have HZ7 := Lib.hid (HZ6.out.keep hB)
      clear hB
      rw [HAl.out]
      go_wp2
      go_roundw
      case rel => exact ⟨k + 1, _, _, by omega, by go_num, HAl, HZ7⟩
      case measure => simp [intOf] <;> omega
    · go_wp2_with fail
      refine (rnew_ok a cap len xs _ HL.out hs (HN.out.below HZ.out.W) HE.out HNil.out).mono ?_
      rintro e w6 ⟨bm2, gh2, gn2, cm2, sp2, rfl, hR, hB, _, _, _⟩
      have HR := Lib.hid hR
      have HZ6 := Lib.hid (HZ.out.keep hB)
      clear hR hB
      go_wp2_with fail
      refine (awake_any _).mono ?_
      rintro e w7 ⟨rfl, hB⟩
      have HR7 := Lib.hid (HR.out.keep hB)
      have HZ7 := Lib.hid (HZ6.out.keep hB)
      clear hB
      go_wp2_with fail
      refine (is_any b2 g2 bm2 gh2 gn2 cm2 sp2 _ _ w7 HZ7.out.V HR7.out).mono ?_
      rintro e w8 ⟨rfl, hB⟩
      have HR8 := Lib.hid (HR7.out.keep hB)
      have HZ8 := Lib.hid (HZ7.out.keep hB)
      clear hB
      go_wp2_with fail
      refine (is_any b1 g1 bm2 gh2 gn2 cm2 sp2 _ _ w8 HZ8.out.F HR8.out).mono ?_
      rintro e w9 ⟨rfl, hB⟩
      have HZ9 := Lib.hid (HZ8.out.keep hB)
      clear hB
      go_wp2
      go_ret
      exact ⟨rfl, HZ9.out.W⟩

end Go.Proofs.Ytbopnijekafogaa.tillPlays
