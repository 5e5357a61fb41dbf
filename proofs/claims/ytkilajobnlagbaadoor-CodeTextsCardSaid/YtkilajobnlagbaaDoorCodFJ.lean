/-
  The document's line 36: a name and digits.
-/
import Derived.Test.YtkilajobnlagbaaDoorCodFI
namespace Go.Proofs.YtkilajobnlagbaaDoor
open Go.RowKit
set_option linter.unusedVariables false

theorem run_suf (s : ByteArray) (m : Nat) (hm : m + 1 ≤ s.size) (W : World) : (Instr.slice 9 (.string s) (some (.int .i64 ((m : Int) + 1))) none none).run Tryd.prog W = .ok (.string (s.extract (m + 1) s.size)) W := by
  obtain ⟨x, hx⟩ : ∃ x : Nat, m + 1 = x := ⟨_, rfl⟩
  have e : (m : Int) + 1 = (x : Int) := by omega
  rw [e, hx]
  rw [hx] at hm
  have h0 : (0 : Int) ≤ (x : Int) := by omega
  have h1 : (x : Int) ≤ (s.size : Int) := by omega
  go_simp
theorem scanD_cons (b : UInt8) (r : List UInt8) (a : Nat) : scanD (b :: r) a = if b.toNat < 48 ∨ 57 < b.toNat then none else if (18446744073709551615 - (b.toNat - 48)) / 10 < a then none else scanD r (a * 10 + (b.toNat - 48)) := by
  rw [scanD]
theorem lineE_none (s : ByteArray) (op : Nat) (ho : op < 18) (hn : lnName s = nm op) (hh : lnHas s = true) (hf : fol op ≠ 0) (h : scanD (lnNum s).data.toList 0 = none) : lineE s = (10, []) :=
  lineE_bad s op ho hn hh hf fun u hu e => by
    rw [e, scanD_dec u (by have := pow_le op; omega)] at h
    cases h
theorem own_base {w : World} {b c : Nat} {v : Value} {l : List Int} (h : Oct.Own w b v l) (hb : c ≤ b) : Oct.Own w c v l := by
  refine ⟨h.1, ?_⟩
  rcases h.2 with h1 | ⟨g, cap, cur, h1, h2, h3⟩
  · exact .inl h1
  · exact .inr ⟨g, cap, cur, h1, Nat.le_trans hb h2, h3⟩

set_option maxRecDepth 100000 in
set_option maxHeartbeats 8000000 in
theorem rline_num (s : ByteArray) (op : Nat) (w : World) (hs : s.size ≤ 4096) (ho : op < 18) (hop : lnName s = nm op) (HL1 : Hid (spAt s.data.toList < s.data.toList.length)) (HL2 : Hid (fol op ≠ 0)) : Calls Tryd.prog 36 #[.string s] w (ParPost w (lineE s).1 (lineE s).2) := by
  have HNAME : Hid (∀ j, j < op → nm j ≠ lnName s) := Lib.hid fun j hj e => by
    rw [hop] at e
    have h1 := opF_nm j (by omega)
    have h2 := opF_nm op ho
    rw [e, h2] at h1
    injection h1 with h1 _
    omega
  have HHAS := Lib.hid (ln_has s)
  have HNUM := Lib.hid (ln_num s)
  have HOP := Lib.hid hop
  clear hop
  obtain ⟨n, hn⟩ : ∃ n, s.size = n := ⟨_, rfl⟩
  have hln : s.data.toList.length = n := by rw [Array.length_toList]; exact hn
  have HLL := Lib.hid hln
  have HN := Lib.hid hn
  have n9 : (n : Int) ≤ 4096 := by omega
  have n0 : (0 : Int) ≤ (n : Int) := Int.natCast_nonneg _
  have hns : (s.size : Int) = (n : Int) := by rw [hn]
  clear hln hn
  go_enter Tryd.func36, Tryd.ntmps36
  go_wp2_with fail
  go_loopw [4, 5] (fun c i wr => ∃ (k m : Nat) (x : Int), c = .int .i64 (m : Int) ∧ i = .int .i64 x ∧ k ≤ n ∧ Hid (x = (k : Int) - 1) ∧ Hid (m = k + spAt (s.data.toList.drop k)) ∧ Hid (Below w.heap.size w wr)) (fun _ i _ => (intOf i + 1).toNat)
  case atStart => exact ⟨n, n, (n : Int) - 1, rfl, rfl, Nat.le_refl _, Lib.hid rfl, Lib.hid (by rw [List.drop_of_length_le (by rw [HLL.out]; exact Nat.le_refl _)]; rfl), Lib.hid (Below.refl _ _)⟩
  case round =>
    obtain ⟨k, m, x, rfl, rfl, hk, HX, HM, HB⟩ := hrel
    by_cases h0 : k = 0
    · subst h0
      obtain rfl : x = -1 := by have := HX.out; omega
      have HM0 : Hid (m = spAt s.data.toList) := Lib.hid (by have := HM.out; simpa using this)
      clear HM HX
      have hmn : m ≤ n := by have h1 := spAt_le s.data.toList; rw [HLL.out] at h1; have := HM0.out; omega
      have hm1 : (m : Int) ≤ (n : Int) := by omega
      have hm0 : (0 : Int) ≤ (m : Int) := Int.natCast_nonneg _
      obtain ⟨NM, hNM⟩ : ∃ x, lnName s = x := ⟨_, rfl⟩
      have hpre : s.extract 0 m = NM := by
        rw [← hNM]
        exact ba_ext (by rw [extract_list s 0 m (Nat.zero_le _) (by rw [HN.out]; exact hmn), ln_name, List.drop_zero, Nat.sub_zero, HM0.out])
      have HPRE : Hid (∀ W : World, (Instr.slice 9 (.string s) none (some (.int .i64 (m : Int))) none).run Tryd.prog W = .ok (.string NM) W) := Lib.hid fun W => by rw [← hpre]; exact run_pre s m (by rw [HN.out]; exact hmn) W
      rw [hNM] at HNAME
      have HNM := Lib.hid hNM
      clear hNM hpre
      go_wp2_with fail
      go_loopw [6] (fun o wr => ∃ k : Nat, o = .int .i64 (k : Int) ∧ k ≤ op ∧ Hid (Below w.heap.size w wr)) (fun o _ => 18 - (intOf o).toNat)
      case atStart => exact ⟨0, rfl, Nat.zero_le _, HB⟩
      case round =>
        obtain ⟨k, rfl, hk, HB⟩ := hrel
        have k0 : (0 : Int) ≤ (k : Int) := Int.natCast_nonneg _
        by_cases hlt : k < op
        · have k8 : (k : Int) < 18 := by omega
          have hk18 : k < 18 := by omega
          have hne : ((nm k).toList == NM.toList) = false := by
            rw [beq_eq_false_iff_ne, ByteArray.toList_eq, ByteArray.toList_eq]
            exact fun h => HNAME.out k (by omega) (ByteArray.ext (Array.ext' h))
          go_upto_region 10 with fail
          have hBz : Below wr.heap.size wr wr.drew := below_drewN (Below.refl _ _) 1
          have HBX0 : Hid (Below w.heap.size w wr.drew) := Lib.hid (HB.out.trans (hBz.mono HB.out.size))
          clear hBz
          refine wp_region_held_drew (S := fun w' => True) (by kernel_rfl) (trivial) (fun hHeld => ?_)
          generalize wr.drew = X0 at hHeld HBX0 ⊢
          refine wpAnyH_take (i := 1) (v := .int .i64 (k : Int)) rfl (by kernel_rfl) (by kernel_rfl) (by kernel_rfl) (fun _ _ _ h => h) (Or.inl ⟨by rfl, fun w _ => by rfl⟩) hHeld ?_
          show wpAnyH _ _ _ _ _ _ _ (Act.put _ (some 31) _) _
          simp only [Act.put, List.setIfInBounds_toArray, List.set_cons_zero, List.set_cons_succ]
          refine wpAnyH_take (i := 4) (v := .string s) rfl (by kernel_rfl) (by kernel_rfl) (by kernel_rfl) (fun _ _ _ h => h) (Or.inl ⟨by rfl, fun w _ => by rfl⟩) hHeld ?_
          show wpAnyH _ _ _ _ _ _ _ (Act.put _ (some 34) _) _
          simp only [Act.put, List.setIfInBounds_toArray, List.set_cons_zero, List.set_cons_succ]
          refine wpAnyH_take (i := 5) (v := .int .i64 (m : Int)) rfl (by kernel_rfl) (by kernel_rfl) (by kernel_rfl) (fun _ _ _ h => h) (Or.inl ⟨by rfl, fun w _ => by rfl⟩) hHeld ?_
          show wpAnyH _ _ _ _ _ _ _ (Act.put _ (some 35) _) _
          simp only [Act.put, List.setIfInBounds_toArray, List.set_cons_zero, List.set_cons_succ]
          refine wpAnyH_take (i := 6) (v := .string NM) rfl (by kernel_rfl) (by kernel_rfl) (by kernel_rfl) (fun _ _ _ h => h) (Or.inl ⟨by rfl, by intro w' h; have hh := HPRE.out w'; go_simp⟩) hHeld ?_
          show wpAnyH _ _ _ _ _ _ _ (Act.put _ (some 36) _) _
          simp only [Act.put, List.setIfInBounds_toArray, List.set_cons_zero, List.set_cons_succ]
          refine wpAnyH_ready (rs := [0]) (by kernel_rfl) (by simp) ?_
          refine AllReadyH.cons rfl (fun K hK => ?_) AllReadyH.nil
          refine step_call rfl 32 #[] #[] rfl #[] (by simp) (by go_simp) (names_any X0) ?_
          rintro e X1 ⟨rfl, hN, hB⟩
          obtain ⟨gn, hgn⟩ : ∃ x, X0.heap.size = x := ⟨_, rfl⟩
          rw [hgn] at hN ⊢
          have HBX1 : Hid (Below w.heap.size w X1) := Lib.hid (HBX0.out.trans (hB.mono HBX0.out.size))
          have NX1 : Hid (Blk X1 gn 9 nmsL) := Lib.hid (hN)
          clear HBX0 hB hN hgn
          refine ⟨_, rfl, hK.out _ _ (trivial) (fun hHeld => ?_)⟩
          clear hK K
          show wpAnyH _ _ _ _ _ _ _ (Act.put _ (some 30) _) _
          simp only [Act.put, List.setIfInBounds_toArray, List.set_cons_zero, List.set_cons_succ]
          refine wpAnyH_take (i := 2) (v := .pointer (some ⟨gn, k, none⟩)) rfl (by kernel_rfl) (by kernel_rfl) (by kernel_rfl) (fun _ _ _ h => h) (Or.inl ⟨by rfl, by intro w' h; go_simp⟩) hHeld ?_
          show wpAnyH _ _ _ _ _ _ _ (Act.put _ (some 32) _) _
          simp only [Act.put, List.setIfInBounds_toArray, List.set_cons_zero, List.set_cons_succ]
          refine wpAnyH_ready (rs := [3]) (by kernel_rfl) (by simp) ?_
          refine AllReadyH.cons rfl (fun K hK => ?_) AllReadyH.nil
          refine step_ld rfl 9 (.tmp 32) rfl gn k rfl (.string (nm k)) (run_load_str X1 gn k 9 nmsL NX1.out (nm k) (nmsL_get k hk18)) ?_
          refine hK.out _ _ (trivial) (fun hHeld => ?_)
          clear hK K
          show wpAnyH _ _ _ _ _ _ _ (Act.put _ (some 33) _) _
          simp only [Act.put, List.setIfInBounds_toArray, List.set_cons_zero, List.set_cons_succ]
          refine wpAnyH_take (i := 7) (v := .bool true) rfl (by kernel_rfl) (by kernel_rfl) (by kernel_rfl) (fun _ _ _ h => h) (Or.inl ⟨by rfl, by intro w' h; go_simp⟩) hHeld ?_
          show wpAnyH _ _ _ _ _ _ _ (Act.put _ (some 37) _) _
          simp only [Act.put, List.setIfInBounds_toArray, List.set_cons_zero, List.set_cons_succ]
          refine wpAnyH_done (by kernel_rfl) ?_ _
          clear hHeld
          go_wp2_with fail
          exact ⟨⟨k + 1, by go_num, by omega, HBX1⟩, by simp [intOf] <;> omega⟩
        · obtain rfl : k = op := by omega
          have k8 : (k : Int) < 18 := by omega
          have hk18 : k < 18 := ho
          have hne : ((nm k).toList == NM.toList) = true := by rw [← HNM.out, HOP.out]; simp
          have hw8 : IntKind.u8.wrap (k : Int) = k := IntWalk.u8_in _ ⟨by omega, by omega⟩
          have HMO := Lib.hid (more_any k hk18)
          obtain ⟨F, hF⟩ : ∃ x, fol k = x := ⟨_, rfl⟩
          rw [hF] at HMO
          have HF := Lib.hid hF
          have hf4 := fol_in k
          rw [hF] at hf4
          have HF4 := Lib.hid hf4
          have F0 : (0 : Int) ≤ (F : Int) := Int.natCast_nonneg _
          clear hF hf4
          go_upto_region 10 with fail
          have hBz : Below wr.heap.size wr wr.drew := below_drewN (Below.refl _ _) 1
          have HBX0 : Hid (Below w.heap.size w wr.drew) := Lib.hid (HB.out.trans (hBz.mono HB.out.size))
          clear hBz
          refine wp_region_held_drew (S := fun w' => True) (by kernel_rfl) (trivial) (fun hHeld => ?_)
          generalize wr.drew = X0 at hHeld HBX0 ⊢
          refine wpAnyH_take (i := 1) (v := .int .i64 (k : Int)) rfl (by kernel_rfl) (by kernel_rfl) (by kernel_rfl) (fun _ _ _ h => h) (Or.inl ⟨by rfl, fun w _ => by rfl⟩) hHeld ?_
          show wpAnyH _ _ _ _ _ _ _ (Act.put _ (some 31) _) _
          simp only [Act.put, List.setIfInBounds_toArray, List.set_cons_zero, List.set_cons_succ]
          refine wpAnyH_take (i := 4) (v := .string s) rfl (by kernel_rfl) (by kernel_rfl) (by kernel_rfl) (fun _ _ _ h => h) (Or.inl ⟨by rfl, fun w _ => by rfl⟩) hHeld ?_
          show wpAnyH _ _ _ _ _ _ _ (Act.put _ (some 34) _) _
          simp only [Act.put, List.setIfInBounds_toArray, List.set_cons_zero, List.set_cons_succ]
          refine wpAnyH_take (i := 5) (v := .int .i64 (m : Int)) rfl (by kernel_rfl) (by kernel_rfl) (by kernel_rfl) (fun _ _ _ h => h) (Or.inl ⟨by rfl, fun w _ => by rfl⟩) hHeld ?_
          show wpAnyH _ _ _ _ _ _ _ (Act.put _ (some 35) _) _
          simp only [Act.put, List.setIfInBounds_toArray, List.set_cons_zero, List.set_cons_succ]
          refine wpAnyH_take (i := 6) (v := .string NM) rfl (by kernel_rfl) (by kernel_rfl) (by kernel_rfl) (fun _ _ _ h => h) (Or.inl ⟨by rfl, by intro w' h; have hh := HPRE.out w'; go_simp⟩) hHeld ?_
          show wpAnyH _ _ _ _ _ _ _ (Act.put _ (some 36) _) _
          simp only [Act.put, List.setIfInBounds_toArray, List.set_cons_zero, List.set_cons_succ]
          refine wpAnyH_ready (rs := [0]) (by kernel_rfl) (by simp) ?_
          refine AllReadyH.cons rfl (fun K hK => ?_) AllReadyH.nil
          refine step_call rfl 32 #[] #[] rfl #[] (by simp) (by go_simp) (names_any X0) ?_
          rintro e X1 ⟨rfl, hN, hB⟩
          obtain ⟨gn, hgn⟩ : ∃ x, X0.heap.size = x := ⟨_, rfl⟩
          rw [hgn] at hN ⊢
          have HBX1 : Hid (Below w.heap.size w X1) := Lib.hid (HBX0.out.trans (hB.mono HBX0.out.size))
          have NX1 : Hid (Blk X1 gn 9 nmsL) := Lib.hid (hN)
          clear HBX0 hB hN hgn
          refine ⟨_, rfl, hK.out _ _ (trivial) (fun hHeld => ?_)⟩
          clear hK K
          show wpAnyH _ _ _ _ _ _ _ (Act.put _ (some 30) _) _
          simp only [Act.put, List.setIfInBounds_toArray, List.set_cons_zero, List.set_cons_succ]
          refine wpAnyH_take (i := 2) (v := .pointer (some ⟨gn, k, none⟩)) rfl (by kernel_rfl) (by kernel_rfl) (by kernel_rfl) (fun _ _ _ h => h) (Or.inl ⟨by rfl, by intro w' h; go_simp⟩) hHeld ?_
          show wpAnyH _ _ _ _ _ _ _ (Act.put _ (some 32) _) _
          simp only [Act.put, List.setIfInBounds_toArray, List.set_cons_zero, List.set_cons_succ]
          refine wpAnyH_ready (rs := [3]) (by kernel_rfl) (by simp) ?_
          refine AllReadyH.cons rfl (fun K hK => ?_) AllReadyH.nil
          refine step_ld rfl 9 (.tmp 32) rfl gn k rfl (.string (nm k)) (run_load_str X1 gn k 9 nmsL NX1.out (nm k) (nmsL_get k hk18)) ?_
          refine hK.out _ _ (trivial) (fun hHeld => ?_)
          clear hK K
          show wpAnyH _ _ _ _ _ _ _ (Act.put _ (some 33) _) _
          simp only [Act.put, List.setIfInBounds_toArray, List.set_cons_zero, List.set_cons_succ]
          refine wpAnyH_take (i := 7) (v := .bool false) rfl (by kernel_rfl) (by kernel_rfl) (by kernel_rfl) (fun _ _ _ h => h) (Or.inl ⟨by rfl, by intro w' h; go_simp⟩) hHeld ?_
          show wpAnyH _ _ _ _ _ _ _ (Act.put _ (some 37) _) _
          simp only [Act.put, List.setIfInBounds_toArray, List.set_cons_zero, List.set_cons_succ]
          refine wpAnyH_done (by kernel_rfl) ?_ _
          clear hHeld
          have HB4 := HBX1
          clear HBX1
          have m2 : (m : Int) < (n : Int) := by have h1 := HM0.out; have h2 := HL1.out; rw [HLL.out] at h2; omega
          have Fp : (0 : Int) < (F : Int) := by have h1 := HF.out; have h2 := HL2.out; omega
          have FpN : 0 < F := by omega
          have dF : decide (0 < F) = true := decide_eq_true FpN
          have m4 : ¬ ((m : Int) = (n : Int)) := by omega
          have hD : s.extract (m + 1) s.size = lnNum s := ba_ext (by rw [extract_list s (m + 1) s.size (by have := HN.out; omega) (Nat.le_refl _), ln_num s HL1.out, HM0.out, List.take_of_length_le (by rw [List.length_drop, HLL.out, HN.out]; exact Nat.le_refl _)])
          obtain ⟨D, hDD⟩ : ∃ x, lnNum s = x := ⟨_, rfl⟩
          rw [hDD] at hD
          have HSUF : Hid (∀ W : World, (Instr.slice 9 (.string s) (some (.int .i64 ((m : Int) + 1))) none none).run Tryd.prog W = .ok (.string D) W) := Lib.hid fun W => by rw [← hD]; exact run_suf s m (by have := HN.out; omega) W
          have hsuf := HSUF.out
          obtain ⟨L, hL⟩ : ∃ L, D.size = L := ⟨_, rfl⟩
          have hLn : L ≤ n := by rw [← hL, ← hD, ByteArray.size_extract]; have := HN.out; omega
          have HDL : Hid (D.data.toList.length = L) := Lib.hid (by rw [Array.length_toList]; exact hL)
          have HDD := Lib.hid hDD
          have HLS := Lib.hid hL
          have hLs : (D.size : Int) = (L : Int) := by rw [hL]
          have L0 : (0 : Int) ≤ (L : Int) := Int.natCast_nonneg _
          have L9 : (L : Int) ≤ 4096 := by omega
          clear hD hDD hL
          go_wp2_with fail
          refine (HMO.out _).mono ?_
          rintro e w4 ⟨rfl, rfl⟩
          go_wp2_with fail
          go_loopw [7, 8, 10, 11] (fun q v i d wr => ∃ (a i' : Nat), q = .int .u64 (a : Int) ∧ v = .bool false ∧ i = .int .i64 (i' : Int) ∧ i' ≤ L ∧ Hid (scanD D.data.toList 0 = scanD (D.data.toList.drop i') a) ∧ Hid (a < 18446744073709551616) ∧ Hid (Below w.heap.size w wr)) (fun _ _ i _ _ => L - (intOf i).toNat)
          case atStart => exact ⟨0, 0, rfl, rfl, rfl, Nat.zero_le _, Lib.hid (by rw [List.drop_zero]), Lib.hid (by omega), HB4⟩
          case round =>
            obtain ⟨a, i, rfl, rfl, rfl, hi, HSC, HA, HB5⟩ := hrel
            have i0 : (0 : Int) ≤ (i : Int) := Int.natCast_nonneg _
            have a0 : (0 : Int) ≤ (a : Int) := Int.natCast_nonneg _
            have a9 : (a : Int) ≤ 18446744073709551615 := by have := HA.out; omega
            by_cases hil : i < L
            · have iL : (i : Int) < (L : Int) := by omega
              have his : i < D.size := by rw [HLS.out]; exact hil
              have hidl : i < D.data.toList.length := by rw [HDL.out]; exact hil
              have hge : D[i]'his = D.data.toList[i] := by rw [Array.getElem_toList]; rfl
              have hsc : scanD D.data.toList 0 = scanD (D.data.toList[i] :: D.data.toList.drop (i + 1)) a := by rw [HSC.out]; congr 1; exact List.drop_eq_getElem_cons hidl
              rw [scanD_cons] at hsc
              rw [← hge] at hsc
              obtain ⟨b, hb⟩ : ∃ b : Nat, (D[i]'his).toNat = b := ⟨_, rfl⟩
              have hb9 : b < 256 := by rw [← hb]; exact (D[i]'his).toNat_lt
              rw [hb] at hsc
              have hbi : ((D[i]'his).toNat : Int) = (b : Int) := by rw [hb]
              have b0 : (0 : Int) ≤ (b : Int) := Int.natCast_nonneg _
              have b9 : (b : Int) < 256 := by omega
              have HSN := Lib.hid hsc
              clear hsc HSC hge hb
              by_cases hd : b < 48 ∨ 57 < b
              · have HRR : Hid (lineE s = (10, [])) := Lib.hid (lineE_none s k hk18 HOP.out (by rw [HHAS.out]; exact decide_eq_true HL1.out) HL2.out (by rw [HDD.out, HSN.out]; exact if_pos hd))
                rcases hd with hd | hd
                · have d1 : (b : Int) < 48 := by omega
                  go_wp2_with fail
                  go_ret2
                  rw [HRR.out]
                  exact ⟨_, rfl, Oct.Own.nil _ _, HB5.out⟩
                · have d1 : ¬ ((b : Int) < 48) := by omega
                  have d2 : (57 : Int) < (b : Int) := by omega
                  have dw : IntKind.u64.wrap ((b : Int) - 48) = (b : Int) - 48 := IntWalk.u64_in _ ⟨by omega, by omega⟩
                  go_wp2_with fail
                  go_ret2
                  rw [HRR.out]
                  exact ⟨_, rfl, Oct.Own.nil _ _, HB5.out⟩
              · have d1 : ¬ ((b : Int) < 48) := by omega
                have d2 : ¬ ((57 : Int) < (b : Int)) := by omega
                obtain ⟨d, hd9⟩ : ∃ d : Nat, b - 48 = d := ⟨_, rfl⟩
                have hdi : (b : Int) - 48 = (d : Int) := by omega
                have dw : IntKind.u64.wrap ((b : Int) - 48) = (d : Int) := by rw [IntWalk.u64_in _ ⟨by omega, by omega⟩]; exact hdi
                have e10 : d ≤ 9 := by omega
                have dd0 : (0 : Int) ≤ (d : Int) := Int.natCast_nonneg _
                have dd9 : (d : Int) ≤ 9 := by omega
                obtain ⟨M, hM9⟩ : ∃ x : Nat, 18446744073709551615 - d = x := ⟨_, rfl⟩
                have hMi : (18446744073709551615 : Int) - (d : Int) = (M : Int) := by omega
                have mw : IntKind.u64.wrap ((18446744073709551615 : Int) - (d : Int)) = (M : Int) := by rw [IntWalk.u64_in _ ⟨by omega, by omega⟩]; exact hMi
                obtain ⟨q, hq9⟩ : ∃ x : Nat, M / 10 = x := ⟨_, rfl⟩
                have hqi : (M : Int) / 10 = (q : Int) := by omega
                have hqt : (M : Int).tdiv 10 = (q : Int) := by rw [Int.tdiv_eq_ediv_of_nonneg (by omega)]; exact hqi
                have q9 : (q : Int) ≤ 18446744073709551615 := by omega
                have qq0 : (0 : Int) ≤ (q : Int) := Int.natCast_nonneg _
                have M9 : (M : Int) ≤ 18446744073709551615 := by omega
                have M0 : (0 : Int) ≤ (M : Int) := by omega
                have qw : IntKind.u64.wrap (q : Int) = (q : Int) := IntWalk.u64_in _ ⟨by omega, by omega⟩
                have hsn := HSN.out
                rw [if_neg hd, hd9, hM9, hq9] at hsn
                have HSQ := Lib.hid hsn
                have HQ := Lib.hid (show a * 10 + d ≤ 18446744073709551615 ∨ q < a by omega)
                clear hsn HSN hd hd9 hM9 hq9
                by_cases hqa : q < a
                · have q1 : (q : Int) < (a : Int) := by omega
                  have HRR : Hid (lineE s = (10, [])) := Lib.hid (lineE_none s k hk18 HOP.out (by rw [HHAS.out]; exact decide_eq_true HL1.out) HL2.out (by rw [HDD.out, HSQ.out]; exact if_pos hqa))
                  go_wp2_with fail
                  go_ret2
                  rw [HRR.out]
                  exact ⟨_, rfl, Oct.Own.nil _ _, HB5.out⟩
                · have q1 : ¬ ((q : Int) < (a : Int)) := by omega
                  have HA2 : Hid (a * 10 + d < 18446744073709551616) := Lib.hid (by have := HQ.out; omega)
                  have aw1 : IntKind.u64.wrap ((a : Int) * 10) = (a : Int) * 10 := IntWalk.u64_in _ ⟨by omega, by have := HA2.out; omega⟩
                  have aw2 : IntKind.u64.wrap ((a : Int) * 10 + (d : Int)) = (a : Int) * 10 + (d : Int) := IntWalk.u64_in _ ⟨by omega, by have := HA2.out; omega⟩
                  have HSC2 : Hid (scanD D.data.toList 0 = scanD (D.data.toList.drop (i + 1)) (a * 10 + d)) := Lib.hid (by rw [HSQ.out, if_neg hqa])
                  clear HSQ HQ
                  go_wp2_with fail
                  exact ⟨⟨a * 10 + d, i + 1, by go_num, rfl, by go_num, by omega, HSC2, HA2, HB5⟩, by simp [intOf]; omega⟩
            · obtain rfl : i = L := by omega
              have HSE : Hid (scanD D.data.toList 0 = some a) := Lib.hid (by rw [HSC.out, List.drop_of_length_le (by rw [HDL.out]; exact Nat.le_refl _)]; rfl)
              clear HSC
              have hirr : ¬ ((i : Int) < (i : Int)) := by omega
              by_cases hz : i = 0
              · subst hz
                have HRR : Hid (lineE s = (10, [])) := Lib.hid (lineE_bad s k hk18 HOP.out (by rw [HHAS.out]; exact decide_eq_true HL1.out) HL2.out (fun u hu e => by rw [HDD.out] at e; have h1 := HDL.out; rw [e] at h1; exact decD_ne u (List.eq_nil_of_length_eq_zero h1)))
                go_wp2_with fail
                go_ret2
                rw [HRR.out]
                exact ⟨_, rfl, Oct.Own.nil _ _, HB5.out⟩
              · have z1 : ¬ ((i : Int) = 0) := by omega
                have zb : ((i : Int) == 0) = false := by simpa using z1
                have HDC := Lib.hid (fun W => rdec_any a W HA.out)
                by_cases hdd : Lib.decDigits a = D.data.toList
                · have he : (⟨(Lib.decDigits a).toArray⟩ : ByteArray) = D := ba_ext hdd
                  rw [he] at HDC
                  clear he
                  have heqD : (D.toList == D.toList) = true := by simp
                  by_cases hlim : a < 256 ^ F
                  · have HRR : Hid (lineE s = (0, segO (k, a))) := Lib.hid (lineE_good s k a hk18 HOP.out (by rw [HHAS.out]; exact decide_eq_true HL1.out) HL2.out (by rw [HF.out]; exact hlim) (by rw [HDD.out]; exact hdd.symm))
                    have HSG : Hid (segO (k, a) = [(k : Int)] ++ Oct.numV F (a : Int)) := Lib.hid (by rw [numV_drop F a HF4.out hlim]; unfold segO; rw [HF.out]; rfl)
                    have HNU := Lib.hid (fun (g : Nat) (W : World) (h : Oct.Src W (some ⟨g, 0, none⟩) 1 [(k : Int)]) => Oct.num_any (some ⟨g, 0, none⟩) 1 1 [(k : Int)] (a : Int) F (by have := HF4.out; omega) W h rfl (by omega) a0 a9)
                    have h1 : ¬ ((F : Int) = 1 ∧ (255 : Int) < (a : Int)) := by
                      intro h; obtain rfl : F = 1 := by omega
                      simp at hlim; omega
                    have h2 : ¬ ((F : Int) = 2 ∧ (65535 : Int) < (a : Int)) := by
                      intro h; obtain rfl : F = 2 := by omega
                      simp at hlim; omega
                    have HH1 := Lib.hid h1
                    have HH2 := Lib.hid h2
                    clear h1 h2 hlim hdd
                    have hcase : ((F : Int) = 1 ∧ ¬ (255 : Int) < (a : Int)) ∨ ((F : Int) = 2 ∧ ¬ (65535 : Int) < (a : Int)) ∨ (F : Int) = 8 := by have h4 := HF4.out; have h5 := HH1.out; have h6 := HH2.out; omega
                    rcases hcase with ⟨f1, f2⟩ | ⟨f1, f2⟩ | f1
                    · obtain rfl : F = 1 := by omega
                      have f3 : decide ((255 : Int) < (a : Int)) = false := decide_eq_false (by omega)
                      have f5 : ¬ (255 < a) := by omega
                      clear HH1 HH2 f1
                      go_wp2_with fail
                      refine (HDC.out _).mono ?_
                      rintro e w6 ⟨rfl, hB6⟩
                      have HB6 := Lib.hid (HB5.out.trans (hB6.mono HB5.out.size))
                      clear hB6
                      go_wp2_with fail
                      refine (HMO.out _).mono ?_
                      rintro e w7 ⟨rfl, rfl⟩
                      go_wp2_with fail
                      refine (HMO.out _).mono ?_
                      rintro e w8 ⟨rfl, rfl⟩
                      go_wp2_with fail
                      refine (HMO.out _).mono ?_
                      rintro e w9 ⟨rfl, rfl⟩
                      go_wp2_with fail
                      refine (HNU.out _ _ (Oct.Src.one _ _)).mono ?_
                      rintro e w10 ⟨v, rfl, hO, hBL⟩
                      have HB7 := Lib.hid (HB6.out.trans (((Below.refl _ _).alloc (Nat.le_refl _) _).trans (hBL.mono (by simp)) |>.mono HB6.out.size))
                      have HO7 := Lib.hid hO
                      clear hO hBL
                      go_wp2_with fail
                      go_ret2
                      rw [HRR.out]
                      refine ⟨_, rfl, ?_, HB7.out⟩
                      have h := HO7.out
                      rw [← HSG.out] at h
                      exact own_base h (by have := HB6.out.size; simp; omega)
                    · obtain rfl : F = 2 := by omega
                      have f3 : decide ((65535 : Int) < (a : Int)) = false := decide_eq_false (by omega)
                      have f5 : ¬ (65535 < a) := by omega
                      clear HH1 HH2 f1
                      go_wp2_with fail
                      refine (HDC.out _).mono ?_
                      rintro e w6 ⟨rfl, hB6⟩
                      have HB6 := Lib.hid (HB5.out.trans (hB6.mono HB5.out.size))
                      clear hB6
                      go_wp2_with fail
                      refine (HMO.out _).mono ?_
                      rintro e w7 ⟨rfl, rfl⟩
                      go_wp2_with fail
                      refine (HMO.out _).mono ?_
                      rintro e w8 ⟨rfl, rfl⟩
                      go_wp2_with fail
                      refine (HMO.out _).mono ?_
                      rintro e w9 ⟨rfl, rfl⟩
                      go_wp2_with fail
                      refine (HNU.out _ _ (Oct.Src.one _ _)).mono ?_
                      rintro e w10 ⟨v, rfl, hO, hBL⟩
                      have HB7 := Lib.hid (HB6.out.trans (((Below.refl _ _).alloc (Nat.le_refl _) _).trans (hBL.mono (by simp)) |>.mono HB6.out.size))
                      have HO7 := Lib.hid hO
                      clear hO hBL
                      go_wp2_with fail
                      go_ret2
                      rw [HRR.out]
                      refine ⟨_, rfl, ?_, HB7.out⟩
                      have h := HO7.out
                      rw [← HSG.out] at h
                      exact own_base h (by have := HB6.out.size; simp; omega)
                    · obtain rfl : F = 8 := by omega
                      clear HH1 HH2 f1
                      go_wp2_with fail
                      refine (HDC.out _).mono ?_
                      rintro e w6 ⟨rfl, hB6⟩
                      have HB6 := Lib.hid (HB5.out.trans (hB6.mono HB5.out.size))
                      clear hB6
                      go_wp2_with fail
                      refine (HMO.out _).mono ?_
                      rintro e w7 ⟨rfl, rfl⟩
                      go_wp2_with fail
                      refine (HMO.out _).mono ?_
                      rintro e w8 ⟨rfl, rfl⟩
                      go_wp2_with fail
                      refine (HMO.out _).mono ?_
                      rintro e w9 ⟨rfl, rfl⟩
                      go_wp2_with fail
                      refine (HNU.out _ _ (Oct.Src.one _ _)).mono ?_
                      rintro e w10 ⟨v, rfl, hO, hBL⟩
                      have HB7 := Lib.hid (HB6.out.trans (((Below.refl _ _).alloc (Nat.le_refl _) _).trans (hBL.mono (by simp)) |>.mono HB6.out.size))
                      have HO7 := Lib.hid hO
                      clear hO hBL
                      go_wp2_with fail
                      go_ret2
                      rw [HRR.out]
                      refine ⟨_, rfl, ?_, HB7.out⟩
                      have h := HO7.out
                      rw [← HSG.out] at h
                      exact own_base h (by have := HB6.out.size; simp; omega)
                  · have HRR : Hid (lineE s = (10, [])) := Lib.hid (lineE_bad s k hk18 HOP.out (by rw [HHAS.out]; exact decide_eq_true HL1.out) HL2.out (fun u hu e => by
                      rw [HDD.out, ← hdd] at e
                      have h1 := scanD_dec a HA.out
                      rw [e, scanD_dec u (by rw [HF.out] at hu; have := pow_le k; rw [HF.out] at this; omega)] at h1
                      injection h1 with h1
                      rw [HF.out, h1] at hu
                      exact hlim hu))
                    have hcase : ((F : Int) = 1 ∧ (255 : Int) < (a : Int)) ∨ ((F : Int) = 2 ∧ (65535 : Int) < (a : Int)) := by
                      have h5 := HL2.out
                      rw [HF.out] at h5
                      rcases HF4.out with h4 | h4 | h4 | h4
                      · omega
                      · subst h4; simp at hlim; omega
                      · subst h4; simp at hlim; omega
                      · subst h4; exact absurd HA.out (by simpa using hlim)
                    clear hlim hdd
                    rcases hcase with ⟨f1, f2⟩ | ⟨f1, f2⟩
                    · obtain rfl : F = 1 := by omega
                      have f3 : decide ((255 : Int) < (a : Int)) = true := decide_eq_true (by omega)
                      have f5 : 255 < a := by omega
                      clear f1
                      go_wp2_with fail
                      refine (HDC.out _).mono ?_
                      rintro e w6 ⟨rfl, hB6⟩
                      have HB6 := Lib.hid (HB5.out.trans (hB6.mono HB5.out.size))
                      clear hB6
                      go_wp2_with fail
                      refine (HMO.out _).mono ?_
                      rintro e w7 ⟨rfl, rfl⟩
                      go_wp2_with fail
                      go_ret2
                      rw [HRR.out]
                      exact ⟨_, rfl, Oct.Own.nil _ _, HB6.out⟩
                    · obtain rfl : F = 2 := by omega
                      have f3 : decide ((65535 : Int) < (a : Int)) = true := decide_eq_true (by omega)
                      have f5 : 65535 < a := by omega
                      clear f1
                      go_wp2_with fail
                      refine (HDC.out _).mono ?_
                      rintro e w6 ⟨rfl, hB6⟩
                      have HB6 := Lib.hid (HB5.out.trans (hB6.mono HB5.out.size))
                      clear hB6
                      go_wp2_with fail
                      refine (HMO.out _).mono ?_
                      rintro e w7 ⟨rfl, rfl⟩
                      go_wp2_with fail
                      refine (HMO.out _).mono ?_
                      rintro e w8 ⟨rfl, rfl⟩
                      go_wp2_with fail
                      go_ret2
                      rw [HRR.out]
                      exact ⟨_, rfl, Oct.Own.nil _ _, HB6.out⟩
                · have HRR : Hid (lineE s = (10, [])) := Lib.hid (lineE_bad s k hk18 HOP.out (by rw [HHAS.out]; exact decide_eq_true HL1.out) HL2.out (fun u hu e => by
                    rw [HDD.out] at e
                    have h1 := HSE.out
                    rw [e, scanD_dec u (by rw [HF.out] at hu; have := pow_le k; rw [HF.out] at this; omega)] at h1
                    injection h1 with h1
                    exact hdd (by rw [e, h1])))
                  have hne2 : ((⟨(Lib.decDigits a).toArray⟩ : ByteArray).toList == D.toList) = false := by
                    rw [beq_eq_false_iff_ne, ByteArray.toList_eq, ByteArray.toList_eq]
                    exact hdd
                  obtain ⟨DA, hDA⟩ : ∃ x, (⟨(Lib.decDigits a).toArray⟩ : ByteArray) = x := ⟨_, rfl⟩
                  rw [hDA] at HDC hne2
                  clear hdd hDA
                  go_wp2_with fail
                  refine (HDC.out _).mono ?_
                  rintro e w6 ⟨rfl, hB6⟩
                  have HB6 := Lib.hid (HB5.out.trans (hB6.mono HB5.out.size))
                  clear hB6
                  go_wp2_with fail
                  go_ret2
                  rw [HRR.out]
                  exact ⟨_, rfl, Oct.Own.nil _ _, HB6.out⟩
    · obtain ⟨i, rfl⟩ : ∃ i, k = i + 1 := ⟨k - 1, by omega⟩
      obtain rfl : x = (i : Int) := by have := HX.out; omega
      have i0 : (0 : Int) ≤ (i : Int) := Int.natCast_nonneg _
      have hil : i < s.data.toList.length := by rw [HLL.out]; omega
      have iN : (i : Int) < (n : Int) := by omega
      have his : i < s.size := by rw [HN.out]; omega
      have hst := spAt_step s.data.toList i hil
      have hge : s[i]'his = s.data.toList[i] := by rw [Array.getElem_toList]; rfl
      clear HX hk h0
      by_cases hc : s.data.toList[i] = 32
      · have hx : ((s[i]'his).toNat : Int) = 32 := by rw [hge, hc]; rfl
        rw [if_pos hc] at hst
        have HST := Lib.hid hst
        clear hge hc hst hil HM
        go_wp2_with fail
        exact ⟨⟨i, i, (i : Int) - 1, rfl, by go_num, by omega, Lib.hid rfl, Lib.hid HST.out.symm, HB⟩, by (simp [intOf] <;> omega)⟩
      · have hx : ¬ (((s[i]'his).toNat : Int) = 32) := by
          rw [hge]
          intro e
          apply hc
          have e2 : (s.data.toList[i]).toNat = (32 : UInt8).toNat := by
            show _ = 32
            omega
          exact UInt8.toNat_inj.1 e2
        rw [if_neg hc] at hst
        have HST : Hid (m = i + spAt (s.data.toList.drop i)) := Lib.hid (by rw [hst]; exact HM.out)
        clear hge hc hst hil HM
        go_wp2_with fail
        exact ⟨⟨i, m, (i : Int) - 1, rfl, by go_num, by omega, Lib.hid rfl, HST, HB⟩, by (simp [intOf] <;> omega)⟩
theorem rline_any (s : ByteArray) (w : World) (hs : s.size ≤ 4096) : Calls Tryd.prog 36 #[.string s] w (ParPost w (lineE s).1 (lineE s).2) := by
  by_cases hw : ∀ j, j < 18 → nm j ≠ lnName s
  · rw [lineE_word s hw]
    exact rline_word s w hs (Lib.hid hw)
  · have hex : ∃ op, op < 18 ∧ lnName s = nm op := by
      refine Classical.byContradiction fun h => hw fun j hj e => h ⟨j, hj, e.symm⟩
    obtain ⟨op, ho, hop⟩ := hex
    by_cases h1 : spAt s.data.toList < s.data.toList.length
    · by_cases h2 : fol op = 0
      · rw [lineE_form s op ho hop (by rw [ln_has, decide_eq_true h1, h2]; simp)]
        exact rline_form1 s op w hs ho hop (Lib.hid h1) (Lib.hid h2)
      · exact rline_num s op w hs ho hop (Lib.hid h1) (Lib.hid h2)
    · by_cases h2 : fol op = 0
      · rw [lineE_bare s op ho hop (by rw [ln_has, decide_eq_false h1]) h2]
        exact rline_bare s op w hs ho hop (Lib.hid h1) (Lib.hid h2)
      · rw [lineE_form s op ho hop (by rw [ln_has, decide_eq_false h1]; simp; omega)]
        exact rline_form2 s op w hs ho hop (Lib.hid h1) (Lib.hid h2)
end Go.Proofs.YtkilajobnlagbaaDoor
