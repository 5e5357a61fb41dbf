/-
  The document's line 36: a line with a name.
-/
import Derived.Test.YtkilajobnlagbaaDoorCodFH
namespace Go.Proofs.YtkilajobnlagbaaDoor
open Go.RowKit
set_option linter.unusedVariables false

theorem own_lit {w : World} {base : Nat} (hb : base ≤ w.heap.size) (x : Int) : Oct.Own (w.alloc (.cells #[.int .u8 x] 5)) base (.slice (some ⟨w.heap.size, 0, none⟩) 1 1) [x] :=
  ⟨by simp [Oct.byt], .inr ⟨w.heap.size, 1, #[.int .u8 x], rfl, hb, heap_alloc_last w _, Nat.le_refl _, by unfold maxLen; omega, rfl, rfl⟩⟩

set_option maxRecDepth 100000 in
set_option maxHeartbeats 8000000 in
theorem rline_form1 (s : ByteArray) (op : Nat) (w : World) (hs : s.size ≤ 4096) (ho : op < 18) (hop : lnName s = nm op) (HL1 : Hid (spAt s.data.toList < s.data.toList.length)) (HL2 : Hid (fol op = 0)) : Calls Tryd.prog 36 #[.string s] w (ParPost w 10 []) := by
  have HNAME : Hid (∀ j, j < op → nm j ≠ lnName s) := Lib.hid fun j hj e => by
    rw [hop] at e
    have h1 := opF_nm j (by omega)
    have h2 := opF_nm op ho
    rw [e, h2] at h1
    injection h1 with h1 _
    omega
  have HHAS := Lib.hid (ln_has s)
  have HNUM := Lib.hid (ln_num s)
  have HOP := Lib.hid hop
  clear hop
  obtain ⟨n, hn⟩ : ∃ n, s.size = n := ⟨_, rfl⟩
  have hln : s.data.toList.length = n := by rw [Array.length_toList]; exact hn
  have HLL := Lib.hid hln
  have HN := Lib.hid hn
  have n9 : (n : Int) ≤ 4096 := by omega
  have n0 : (0 : Int) ≤ (n : Int) := Int.natCast_nonneg _
  have hns : (s.size : Int) = (n : Int) := by rw [hn]
  clear hln hn
  go_enter Tryd.func36, Tryd.ntmps36
  go_wp2_with fail
  go_loopw [4, 5] (fun c i wr => ∃ (k m : Nat) (x : Int), c = .int .i64 (m : Int) ∧ i = .int .i64 x ∧ k ≤ n ∧ Hid (x = (k : Int) - 1) ∧ Hid (m = k + spAt (s.data.toList.drop k)) ∧ Hid (Below w.heap.size w wr)) (fun _ i _ => (intOf i + 1).toNat)
  case atStart => exact ⟨n, n, (n : Int) - 1, rfl, rfl, Nat.le_refl _, Lib.hid rfl, Lib.hid (by rw [List.drop_of_length_le (by rw [HLL.out]; exact Nat.le_refl _)]; rfl), Lib.hid (Below.refl _ _)⟩
  case round =>
    obtain ⟨k, m, x, rfl, rfl, hk, HX, HM, HB⟩ := hrel
    by_cases h0 : k = 0
    · subst h0
      obtain rfl : x = -1 := by have := HX.out; omega
      have HM0 : Hid (m = spAt s.data.toList) := Lib.hid (by have := HM.out; simpa using this)
      clear HM HX
      have hmn : m ≤ n := by have h1 := spAt_le s.data.toList; rw [HLL.out] at h1; have := HM0.out; omega
      have hm1 : (m : Int) ≤ (n : Int) := by omega
      have hm0 : (0 : Int) ≤ (m : Int) := Int.natCast_nonneg _
      obtain ⟨NM, hNM⟩ : ∃ x, lnName s = x := ⟨_, rfl⟩
      have hpre : s.extract 0 m = NM := by
        rw [← hNM]
        exact ba_ext (by rw [extract_list s 0 m (Nat.zero_le _) (by rw [HN.out]; exact hmn), ln_name, List.drop_zero, Nat.sub_zero, HM0.out])
      have HPRE : Hid (∀ W : World, (Instr.slice 9 (.string s) none (some (.int .i64 (m : Int))) none).run Tryd.prog W = .ok (.string NM) W) := Lib.hid fun W => by rw [← hpre]; exact run_pre s m (by rw [HN.out]; exact hmn) W
      rw [hNM] at HNAME
      have HNM := Lib.hid hNM
      clear hNM hpre
      go_wp2_with fail
      go_loopw [6] (fun o wr => ∃ k : Nat, o = .int .i64 (k : Int) ∧ k ≤ op ∧ Hid (Below w.heap.size w wr)) (fun o _ => 18 - (intOf o).toNat)
      case atStart => exact ⟨0, rfl, Nat.zero_le _, HB⟩
      case round =>
        obtain ⟨k, rfl, hk, HB⟩ := hrel
        have k0 : (0 : Int) ≤ (k : Int) := Int.natCast_nonneg _
        by_cases hlt : k < op
        · have k8 : (k : Int) < 18 := by omega
          have hk18 : k < 18 := by omega
          have hne : ((nm k).toList == NM.toList) = false := by
            rw [beq_eq_false_iff_ne, ByteArray.toList_eq, ByteArray.toList_eq]
            exact fun h => HNAME.out k (by omega) (ByteArray.ext (Array.ext' h))
          go_upto_region 10 with fail
          have hBz : Below wr.heap.size wr wr.drew := below_drewN (Below.refl _ _) 1
          have HBX0 : Hid (Below w.heap.size w wr.drew) := Lib.hid (HB.out.trans (hBz.mono HB.out.size))
          clear hBz
          refine wp_region_held_drew (S := fun w' => True) (by kernel_rfl) (trivial) (fun hHeld => ?_)
          generalize wr.drew = X0 at hHeld HBX0 ⊢
          refine wpAnyH_take (i := 1) (v := .int .i64 (k : Int)) rfl (by kernel_rfl) (by kernel_rfl) (by kernel_rfl) (fun _ _ _ h => h) (Or.inl ⟨by rfl, fun w _ => by rfl⟩) hHeld ?_
          show wpAnyH _ _ _ _ _ _ _ (Act.put _ (some 31) _) _
          simp only [Act.put, List.setIfInBounds_toArray, List.set_cons_zero, List.set_cons_succ]
          refine wpAnyH_take (i := 4) (v := .string s) rfl (by kernel_rfl) (by kernel_rfl) (by kernel_rfl) (fun _ _ _ h => h) (Or.inl ⟨by rfl, fun w _ => by rfl⟩) hHeld ?_
          show wpAnyH _ _ _ _ _ _ _ (Act.put _ (some 34) _) _
          simp only [Act.put, List.setIfInBounds_toArray, List.set_cons_zero, List.set_cons_succ]
          refine wpAnyH_take (i := 5) (v := .int .i64 (m : Int)) rfl (by kernel_rfl) (by kernel_rfl) (by kernel_rfl) (fun _ _ _ h => h) (Or.inl ⟨by rfl, fun w _ => by rfl⟩) hHeld ?_
          show wpAnyH _ _ _ _ _ _ _ (Act.put _ (some 35) _) _
          simp only [Act.put, List.setIfInBounds_toArray, List.set_cons_zero, List.set_cons_succ]
          refine wpAnyH_take (i := 6) (v := .string NM) rfl (by kernel_rfl) (by kernel_rfl) (by kernel_rfl) (fun _ _ _ h => h) (Or.inl ⟨by rfl, by intro w' h; have hh := HPRE.out w'; go_simp⟩) hHeld ?_
          show wpAnyH _ _ _ _ _ _ _ (Act.put _ (some 36) _) _
          simp only [Act.put, List.setIfInBounds_toArray, List.set_cons_zero, List.set_cons_succ]
          refine wpAnyH_ready (rs := [0]) (by kernel_rfl) (by simp) ?_
          refine AllReadyH.cons rfl (fun K hK => ?_) AllReadyH.nil
          refine step_call rfl 32 #[] #[] rfl #[] (by simp) (by go_simp) (names_any X0) ?_
          rintro e X1 ⟨rfl, hN, hB⟩
          obtain ⟨gn, hgn⟩ : ∃ x, X0.heap.size = x := ⟨_, rfl⟩
          rw [hgn] at hN ⊢
          have HBX1 : Hid (Below w.heap.size w X1) := Lib.hid (HBX0.out.trans (hB.mono HBX0.out.size))
          have NX1 : Hid (Blk X1 gn 9 nmsL) := Lib.hid (hN)
          clear HBX0 hB hN hgn
          refine ⟨_, rfl, hK.out _ _ (trivial) (fun hHeld => ?_)⟩
          clear hK K
          show wpAnyH _ _ _ _ _ _ _ (Act.put _ (some 30) _) _
          simp only [Act.put, List.setIfInBounds_toArray, List.set_cons_zero, List.set_cons_succ]
          refine wpAnyH_take (i := 2) (v := .pointer (some ⟨gn, k, none⟩)) rfl (by kernel_rfl) (by kernel_rfl) (by kernel_rfl) (fun _ _ _ h => h) (Or.inl ⟨by rfl, by intro w' h; go_simp⟩) hHeld ?_
          show wpAnyH _ _ _ _ _ _ _ (Act.put _ (some 32) _) _
          simp only [Act.put, List.setIfInBounds_toArray, List.set_cons_zero, List.set_cons_succ]
          refine wpAnyH_ready (rs := [3]) (by kernel_rfl) (by simp) ?_
          refine AllReadyH.cons rfl (fun K hK => ?_) AllReadyH.nil
          refine step_ld rfl 9 (.tmp 32) rfl gn k rfl (.string (nm k)) (run_load_str X1 gn k 9 nmsL NX1.out (nm k) (nmsL_get k hk18)) ?_
          refine hK.out _ _ (trivial) (fun hHeld => ?_)
          clear hK K
          show wpAnyH _ _ _ _ _ _ _ (Act.put _ (some 33) _) _
          simp only [Act.put, List.setIfInBounds_toArray, List.set_cons_zero, List.set_cons_succ]
          refine wpAnyH_take (i := 7) (v := .bool true) rfl (by kernel_rfl) (by kernel_rfl) (by kernel_rfl) (fun _ _ _ h => h) (Or.inl ⟨by rfl, by intro w' h; go_simp⟩) hHeld ?_
          show wpAnyH _ _ _ _ _ _ _ (Act.put _ (some 37) _) _
          simp only [Act.put, List.setIfInBounds_toArray, List.set_cons_zero, List.set_cons_succ]
          refine wpAnyH_done (by kernel_rfl) ?_ _
          clear hHeld
          go_wp2_with fail
          exact ⟨⟨k + 1, by go_num, by omega, HBX1⟩, by simp [intOf] <;> omega⟩
        · obtain rfl : k = op := by omega
          have k8 : (k : Int) < 18 := by omega
          have hk18 : k < 18 := ho
          have hne : ((nm k).toList == NM.toList) = true := by rw [← HNM.out, HOP.out]; simp
          have hw8 : IntKind.u8.wrap (k : Int) = k := IntWalk.u8_in _ ⟨by omega, by omega⟩
          have HMO := Lib.hid (more_any k hk18)
          obtain ⟨F, hF⟩ : ∃ x, fol k = x := ⟨_, rfl⟩
          rw [hF] at HMO
          have HF := Lib.hid hF
          have hf4 := fol_in k
          rw [hF] at hf4
          have HF4 := Lib.hid hf4
          have F0 : (0 : Int) ≤ (F : Int) := Int.natCast_nonneg _
          clear hF hf4
          go_upto_region 10 with fail
          have hBz : Below wr.heap.size wr wr.drew := below_drewN (Below.refl _ _) 1
          have HBX0 : Hid (Below w.heap.size w wr.drew) := Lib.hid (HB.out.trans (hBz.mono HB.out.size))
          clear hBz
          refine wp_region_held_drew (S := fun w' => True) (by kernel_rfl) (trivial) (fun hHeld => ?_)
          generalize wr.drew = X0 at hHeld HBX0 ⊢
          refine wpAnyH_take (i := 1) (v := .int .i64 (k : Int)) rfl (by kernel_rfl) (by kernel_rfl) (by kernel_rfl) (fun _ _ _ h => h) (Or.inl ⟨by rfl, fun w _ => by rfl⟩) hHeld ?_
          show wpAnyH _ _ _ _ _ _ _ (Act.put _ (some 31) _) _
          simp only [Act.put, List.setIfInBounds_toArray, List.set_cons_zero, List.set_cons_succ]
          refine wpAnyH_take (i := 4) (v := .string s) rfl (by kernel_rfl) (by kernel_rfl) (by kernel_rfl) (fun _ _ _ h => h) (Or.inl ⟨by rfl, fun w _ => by rfl⟩) hHeld ?_
          show wpAnyH _ _ _ _ _ _ _ (Act.put _ (some 34) _) _
          simp only [Act.put, List.setIfInBounds_toArray, List.set_cons_zero, List.set_cons_succ]
          refine wpAnyH_take (i := 5) (v := .int .i64 (m : Int)) rfl (by kernel_rfl) (by kernel_rfl) (by kernel_rfl) (fun _ _ _ h => h) (Or.inl ⟨by rfl, fun w _ => by rfl⟩) hHeld ?_
          show wpAnyH _ _ _ _ _ _ _ (Act.put _ (some 35) _) _
          simp only [Act.put, List.setIfInBounds_toArray, List.set_cons_zero, List.set_cons_succ]
          refine wpAnyH_take (i := 6) (v := .string NM) rfl (by kernel_rfl) (by kernel_rfl) (by kernel_rfl) (fun _ _ _ h => h) (Or.inl ⟨by rfl, by intro w' h; have hh := HPRE.out w'; go_simp⟩) hHeld ?_
          show wpAnyH _ _ _ _ _ _ _ (Act.put _ (some 36) _) _
          simp only [Act.put, List.setIfInBounds_toArray, List.set_cons_zero, List.set_cons_succ]
          refine wpAnyH_ready (rs := [0]) (by kernel_rfl) (by simp) ?_
          refine AllReadyH.cons rfl (fun K hK => ?_) AllReadyH.nil
          refine step_call rfl 32 #[] #[] rfl #[] (by simp) (by go_simp) (names_any X0) ?_
          rintro e X1 ⟨rfl, hN, hB⟩
          obtain ⟨gn, hgn⟩ : ∃ x, X0.heap.size = x := ⟨_, rfl⟩
          rw [hgn] at hN ⊢
          have HBX1 : Hid (Below w.heap.size w X1) := Lib.hid (HBX0.out.trans (hB.mono HBX0.out.size))
          have NX1 : Hid (Blk X1 gn 9 nmsL) := Lib.hid (hN)
          clear HBX0 hB hN hgn
          refine ⟨_, rfl, hK.out _ _ (trivial) (fun hHeld => ?_)⟩
          clear hK K
          show wpAnyH _ _ _ _ _ _ _ (Act.put _ (some 30) _) _
          simp only [Act.put, List.setIfInBounds_toArray, List.set_cons_zero, List.set_cons_succ]
          refine wpAnyH_take (i := 2) (v := .pointer (some ⟨gn, k, none⟩)) rfl (by kernel_rfl) (by kernel_rfl) (by kernel_rfl) (fun _ _ _ h => h) (Or.inl ⟨by rfl, by intro w' h; go_simp⟩) hHeld ?_
          show wpAnyH _ _ _ _ _ _ _ (Act.put _ (some 32) _) _
          simp only [Act.put, List.setIfInBounds_toArray, List.set_cons_zero, List.set_cons_succ]
          refine wpAnyH_ready (rs := [3]) (by kernel_rfl) (by simp) ?_
          refine AllReadyH.cons rfl (fun K hK => ?_) AllReadyH.nil
          refine step_ld rfl 9 (.tmp 32) rfl gn k rfl (.string (nm k)) (run_load_str X1 gn k 9 nmsL NX1.out (nm k) (nmsL_get k hk18)) ?_
          refine hK.out _ _ (trivial) (fun hHeld => ?_)
          clear hK K
          show wpAnyH _ _ _ _ _ _ _ (Act.put _ (some 33) _) _
          simp only [Act.put, List.setIfInBounds_toArray, List.set_cons_zero, List.set_cons_succ]
          refine wpAnyH_take (i := 7) (v := .bool false) rfl (by kernel_rfl) (by kernel_rfl) (by kernel_rfl) (fun _ _ _ h => h) (Or.inl ⟨by rfl, by intro w' h; go_simp⟩) hHeld ?_
          show wpAnyH _ _ _ _ _ _ _ (Act.put _ (some 37) _) _
          simp only [Act.put, List.setIfInBounds_toArray, List.set_cons_zero, List.set_cons_succ]
          refine wpAnyH_done (by kernel_rfl) ?_ _
          clear hHeld
          have HB4 := HBX1
          clear HBX1
          have m2 : (m : Int) < (n : Int) := by have h1 := HM0.out; have h2 := HL1.out; rw [HLL.out] at h2; omega
          obtain rfl : F = 0 := by rw [← HF.out]; exact HL2.out
          go_wp2_with fail
          refine (HMO.out _).mono ?_
          rintro e w4 ⟨rfl, rfl⟩
          go_wp2_with fail
          go_ret2
          exact ⟨_, rfl, Oct.Own.nil _ _, HB4.out⟩
    · obtain ⟨i, rfl⟩ : ∃ i, k = i + 1 := ⟨k - 1, by omega⟩
      obtain rfl : x = (i : Int) := by have := HX.out; omega
      have i0 : (0 : Int) ≤ (i : Int) := Int.natCast_nonneg _
      have hil : i < s.data.toList.length := by rw [HLL.out]; omega
      have iN : (i : Int) < (n : Int) := by omega
      have his : i < s.size := by rw [HN.out]; omega
      have hst := spAt_step s.data.toList i hil
      have hge : s[i]'his = s.data.toList[i] := by rw [Array.getElem_toList]; rfl
      clear HX hk h0
      by_cases hc : s.data.toList[i] = 32
      · have hx : ((s[i]'his).toNat : Int) = 32 := by rw [hge, hc]; rfl
        rw [if_pos hc] at hst
        have HST := Lib.hid hst
        clear hge hc hst hil HM
        go_wp2_with fail
        exact ⟨⟨i, i, (i : Int) - 1, rfl, by go_num, by omega, Lib.hid rfl, Lib.hid HST.out.symm, HB⟩, by (simp [intOf] <;> omega)⟩
      · have hx : ¬ (((s[i]'his).toNat : Int) = 32) := by
          rw [hge]
          intro e
          apply hc
          have e2 : (s.data.toList[i]).toNat = (32 : UInt8).toNat := by
            show _ = 32
            omega
          exact UInt8.toNat_inj.1 e2
        rw [if_neg hc] at hst
        have HST : Hid (m = i + spAt (s.data.toList.drop i)) := Lib.hid (by rw [hst]; exact HM.out)
        clear hge hc hst hil HM
        go_wp2_with fail
        exact ⟨⟨i, m, (i : Int) - 1, rfl, by go_num, by omega, Lib.hid rfl, HST, HB⟩, by (simp [intOf] <;> omega)⟩

set_option maxRecDepth 100000 in
set_option maxHeartbeats 8000000 in
theorem rline_form2 (s : ByteArray) (op : Nat) (w : World) (hs : s.size ≤ 4096) (ho : op < 18) (hop : lnName s = nm op) (HL1 : Hid (¬ spAt s.data.toList < s.data.toList.length)) (HL2 : Hid (fol op ≠ 0)) : Calls Tryd.prog 36 #[.string s] w (ParPost w 10 []) := by
  have HNAME : Hid (∀ j, j < op → nm j ≠ lnName s) := Lib.hid fun j hj e => by
    rw [hop] at e
    have h1 := opF_nm j (by omega)
    have h2 := opF_nm op ho
    rw [e, h2] at h1
    injection h1 with h1 _
    omega
  have HHAS := Lib.hid (ln_has s)
  have HNUM := Lib.hid (ln_num s)
  have HOP := Lib.hid hop
  clear hop
  obtain ⟨n, hn⟩ : ∃ n, s.size = n := ⟨_, rfl⟩
  have hln : s.data.toList.length = n := by rw [Array.length_toList]; exact hn
  have HLL := Lib.hid hln
  have HN := Lib.hid hn
  have n9 : (n : Int) ≤ 4096 := by omega
  have n0 : (0 : Int) ≤ (n : Int) := Int.natCast_nonneg _
  have hns : (s.size : Int) = (n : Int) := by rw [hn]
  clear hln hn
  go_enter Tryd.func36, Tryd.ntmps36
  go_wp2_with fail
  go_loopw [4, 5] (fun c i wr => ∃ (k m : Nat) (x : Int), c = .int .i64 (m : Int) ∧ i = .int .i64 x ∧ k ≤ n ∧ Hid (x = (k : Int) - 1) ∧ Hid (m = k + spAt (s.data.toList.drop k)) ∧ Hid (Below w.heap.size w wr)) (fun _ i _ => (intOf i + 1).toNat)
  case atStart => exact ⟨n, n, (n : Int) - 1, rfl, rfl, Nat.le_refl _, Lib.hid rfl, Lib.hid (by rw [List.drop_of_length_le (by rw [HLL.out]; exact Nat.le_refl _)]; rfl), Lib.hid (Below.refl _ _)⟩
  case round =>
    obtain ⟨k, m, x, rfl, rfl, hk, HX, HM, HB⟩ := hrel
    by_cases h0 : k = 0
    · subst h0
      obtain rfl : x = -1 := by have := HX.out; omega
      have HM0 : Hid (m = spAt s.data.toList) := Lib.hid (by have := HM.out; simpa using this)
      clear HM HX
      have hmn : m ≤ n := by have h1 := spAt_le s.data.toList; rw [HLL.out] at h1; have := HM0.out; omega
      have hm1 : (m : Int) ≤ (n : Int) := by omega
      have hm0 : (0 : Int) ≤ (m : Int) := Int.natCast_nonneg _
      obtain ⟨NM, hNM⟩ : ∃ x, lnName s = x := ⟨_, rfl⟩
      have hpre : s.extract 0 m = NM := by
        rw [← hNM]
        exact ba_ext (by rw [extract_list s 0 m (Nat.zero_le _) (by rw [HN.out]; exact hmn), ln_name, List.drop_zero, Nat.sub_zero, HM0.out])
      have HPRE : Hid (∀ W : World, (Instr.slice 9 (.string s) none (some (.int .i64 (m : Int))) none).run Tryd.prog W = .ok (.string NM) W) := Lib.hid fun W => by rw [← hpre]; exact run_pre s m (by rw [HN.out]; exact hmn) W
      rw [hNM] at HNAME
      have HNM := Lib.hid hNM
      clear hNM hpre
      go_wp2_with fail
      go_loopw [6] (fun o wr => ∃ k : Nat, o = .int .i64 (k : Int) ∧ k ≤ op ∧ Hid (Below w.heap.size w wr)) (fun o _ => 18 - (intOf o).toNat)
      case atStart => exact ⟨0, rfl, Nat.zero_le _, HB⟩
      case round =>
        obtain ⟨k, rfl, hk, HB⟩ := hrel
        have k0 : (0 : Int) ≤ (k : Int) := Int.natCast_nonneg _
        by_cases hlt : k < op
        · have k8 : (k : Int) < 18 := by omega
          have hk18 : k < 18 := by omega
          have hne : ((nm k).toList == NM.toList) = false := by
            rw [beq_eq_false_iff_ne, ByteArray.toList_eq, ByteArray.toList_eq]
            exact fun h => HNAME.out k (by omega) (ByteArray.ext (Array.ext' h))
          go_upto_region 10 with fail
          have hBz : Below wr.heap.size wr wr.drew := below_drewN (Below.refl _ _) 1
          have HBX0 : Hid (Below w.heap.size w wr.drew) := Lib.hid (HB.out.trans (hBz.mono HB.out.size))
          clear hBz
          refine wp_region_held_drew (S := fun w' => True) (by kernel_rfl) (trivial) (fun hHeld => ?_)
          generalize wr.drew = X0 at hHeld HBX0 ⊢
          refine wpAnyH_take (i := 1) (v := .int .i64 (k : Int)) rfl (by kernel_rfl) (by kernel_rfl) (by kernel_rfl) (fun _ _ _ h => h) (Or.inl ⟨by rfl, fun w _ => by rfl⟩) hHeld ?_
          show wpAnyH _ _ _ _ _ _ _ (Act.put _ (some 31) _) _
          simp only [Act.put, List.setIfInBounds_toArray, List.set_cons_zero, List.set_cons_succ]
          refine wpAnyH_take (i := 4) (v := .string s) rfl (by kernel_rfl) (by kernel_rfl) (by kernel_rfl) (fun _ _ _ h => h) (Or.inl ⟨by rfl, fun w _ => by rfl⟩) hHeld ?_
          show wpAnyH _ _ _ _ _ _ _ (Act.put _ (some 34) _) _
          simp only [Act.put, List.setIfInBounds_toArray, List.set_cons_zero, List.set_cons_succ]
          refine wpAnyH_take (i := 5) (v := .int .i64 (m : Int)) rfl (by kernel_rfl) (by kernel_rfl) (by kernel_rfl) (fun _ _ _ h => h) (Or.inl ⟨by rfl, fun w _ => by rfl⟩) hHeld ?_
          show wpAnyH _ _ _ _ _ _ _ (Act.put _ (some 35) _) _
          simp only [Act.put, List.setIfInBounds_toArray, List.set_cons_zero, List.set_cons_succ]
          refine wpAnyH_take (i := 6) (v := .string NM) rfl (by kernel_rfl) (by kernel_rfl) (by kernel_rfl) (fun _ _ _ h => h) (Or.inl ⟨by rfl, by intro w' h; have hh := HPRE.out w'; go_simp⟩) hHeld ?_
          show wpAnyH _ _ _ _ _ _ _ (Act.put _ (some 36) _) _
          simp only [Act.put, List.setIfInBounds_toArray, List.set_cons_zero, List.set_cons_succ]
          refine wpAnyH_ready (rs := [0]) (by kernel_rfl) (by simp) ?_
          refine AllReadyH.cons rfl (fun K hK => ?_) AllReadyH.nil
          refine step_call rfl 32 #[] #[] rfl #[] (by simp) (by go_simp) (names_any X0) ?_
          rintro e X1 ⟨rfl, hN, hB⟩
          obtain ⟨gn, hgn⟩ : ∃ x, X0.heap.size = x := ⟨_, rfl⟩
          rw [hgn] at hN ⊢
          have HBX1 : Hid (Below w.heap.size w X1) := Lib.hid (HBX0.out.trans (hB.mono HBX0.out.size))
          have NX1 : Hid (Blk X1 gn 9 nmsL) := Lib.hid (hN)
          clear HBX0 hB hN hgn
          refine ⟨_, rfl, hK.out _ _ (trivial) (fun hHeld => ?_)⟩
          clear hK K
          show wpAnyH _ _ _ _ _ _ _ (Act.put _ (some 30) _) _
          simp only [Act.put, List.setIfInBounds_toArray, List.set_cons_zero, List.set_cons_succ]
          refine wpAnyH_take (i := 2) (v := .pointer (some ⟨gn, k, none⟩)) rfl (by kernel_rfl) (by kernel_rfl) (by kernel_rfl) (fun _ _ _ h => h) (Or.inl ⟨by rfl, by intro w' h; go_simp⟩) hHeld ?_
          show wpAnyH _ _ _ _ _ _ _ (Act.put _ (some 32) _) _
          simp only [Act.put, List.setIfInBounds_toArray, List.set_cons_zero, List.set_cons_succ]
          refine wpAnyH_ready (rs := [3]) (by kernel_rfl) (by simp) ?_
          refine AllReadyH.cons rfl (fun K hK => ?_) AllReadyH.nil
          refine step_ld rfl 9 (.tmp 32) rfl gn k rfl (.string (nm k)) (run_load_str X1 gn k 9 nmsL NX1.out (nm k) (nmsL_get k hk18)) ?_
          refine hK.out _ _ (trivial) (fun hHeld => ?_)
          clear hK K
          show wpAnyH _ _ _ _ _ _ _ (Act.put _ (some 33) _) _
          simp only [Act.put, List.setIfInBounds_toArray, List.set_cons_zero, List.set_cons_succ]
          refine wpAnyH_take (i := 7) (v := .bool true) rfl (by kernel_rfl) (by kernel_rfl) (by kernel_rfl) (fun _ _ _ h => h) (Or.inl ⟨by rfl, by intro w' h; go_simp⟩) hHeld ?_
          show wpAnyH _ _ _ _ _ _ _ (Act.put _ (some 37) _) _
          simp only [Act.put, List.setIfInBounds_toArray, List.set_cons_zero, List.set_cons_succ]
          refine wpAnyH_done (by kernel_rfl) ?_ _
          clear hHeld
          go_wp2_with fail
          exact ⟨⟨k + 1, by go_num, by omega, HBX1⟩, by simp [intOf] <;> omega⟩
        · obtain rfl : k = op := by omega
          have k8 : (k : Int) < 18 := by omega
          have hk18 : k < 18 := ho
          have hne : ((nm k).toList == NM.toList) = true := by rw [← HNM.out, HOP.out]; simp
          have hw8 : IntKind.u8.wrap (k : Int) = k := IntWalk.u8_in _ ⟨by omega, by omega⟩
          have HMO := Lib.hid (more_any k hk18)
          obtain ⟨F, hF⟩ : ∃ x, fol k = x := ⟨_, rfl⟩
          rw [hF] at HMO
          have HF := Lib.hid hF
          have hf4 := fol_in k
          rw [hF] at hf4
          have HF4 := Lib.hid hf4
          have F0 : (0 : Int) ≤ (F : Int) := Int.natCast_nonneg _
          clear hF hf4
          go_upto_region 10 with fail
          have hBz : Below wr.heap.size wr wr.drew := below_drewN (Below.refl _ _) 1
          have HBX0 : Hid (Below w.heap.size w wr.drew) := Lib.hid (HB.out.trans (hBz.mono HB.out.size))
          clear hBz
          refine wp_region_held_drew (S := fun w' => True) (by kernel_rfl) (trivial) (fun hHeld => ?_)
          generalize wr.drew = X0 at hHeld HBX0 ⊢
          refine wpAnyH_take (i := 1) (v := .int .i64 (k : Int)) rfl (by kernel_rfl) (by kernel_rfl) (by kernel_rfl) (fun _ _ _ h => h) (Or.inl ⟨by rfl, fun w _ => by rfl⟩) hHeld ?_
          show wpAnyH _ _ _ _ _ _ _ (Act.put _ (some 31) _) _
          simp only [Act.put, List.setIfInBounds_toArray, List.set_cons_zero, List.set_cons_succ]
          refine wpAnyH_take (i := 4) (v := .string s) rfl (by kernel_rfl) (by kernel_rfl) (by kernel_rfl) (fun _ _ _ h => h) (Or.inl ⟨by rfl, fun w _ => by rfl⟩) hHeld ?_
          show wpAnyH _ _ _ _ _ _ _ (Act.put _ (some 34) _) _
          simp only [Act.put, List.setIfInBounds_toArray, List.set_cons_zero, List.set_cons_succ]
          refine wpAnyH_take (i := 5) (v := .int .i64 (m : Int)) rfl (by kernel_rfl) (by kernel_rfl) (by kernel_rfl) (fun _ _ _ h => h) (Or.inl ⟨by rfl, fun w _ => by rfl⟩) hHeld ?_
          show wpAnyH _ _ _ _ _ _ _ (Act.put _ (some 35) _) _
          simp only [Act.put, List.setIfInBounds_toArray, List.set_cons_zero, List.set_cons_succ]
          refine wpAnyH_take (i := 6) (v := .string NM) rfl (by kernel_rfl) (by kernel_rfl) (by kernel_rfl) (fun _ _ _ h => h) (Or.inl ⟨by rfl, by intro w' h; have hh := HPRE.out w'; go_simp⟩) hHeld ?_
          show wpAnyH _ _ _ _ _ _ _ (Act.put _ (some 36) _) _
          simp only [Act.put, List.setIfInBounds_toArray, List.set_cons_zero, List.set_cons_succ]
          refine wpAnyH_ready (rs := [0]) (by kernel_rfl) (by simp) ?_
          refine AllReadyH.cons rfl (fun K hK => ?_) AllReadyH.nil
          refine step_call rfl 32 #[] #[] rfl #[] (by simp) (by go_simp) (names_any X0) ?_
          rintro e X1 ⟨rfl, hN, hB⟩
          obtain ⟨gn, hgn⟩ : ∃ x, X0.heap.size = x := ⟨_, rfl⟩
          rw [hgn] at hN ⊢
          have HBX1 : Hid (Below w.heap.size w X1) := Lib.hid (HBX0.out.trans (hB.mono HBX0.out.size))
          have NX1 : Hid (Blk X1 gn 9 nmsL) := Lib.hid (hN)
          clear HBX0 hB hN hgn
          refine ⟨_, rfl, hK.out _ _ (trivial) (fun hHeld => ?_)⟩
          clear hK K
          show wpAnyH _ _ _ _ _ _ _ (Act.put _ (some 30) _) _
          simp only [Act.put, List.setIfInBounds_toArray, List.set_cons_zero, List.set_cons_succ]
          refine wpAnyH_take (i := 2) (v := .pointer (some ⟨gn, k, none⟩)) rfl (by kernel_rfl) (by kernel_rfl) (by kernel_rfl) (fun _ _ _ h => h) (Or.inl ⟨by rfl, by intro w' h; go_simp⟩) hHeld ?_
          show wpAnyH _ _ _ _ _ _ _ (Act.put _ (some 32) _) _
          simp only [Act.put, List.setIfInBounds_toArray, List.set_cons_zero, List.set_cons_succ]
          refine wpAnyH_ready (rs := [3]) (by kernel_rfl) (by simp) ?_
          refine AllReadyH.cons rfl (fun K hK => ?_) AllReadyH.nil
          refine step_ld rfl 9 (.tmp 32) rfl gn k rfl (.string (nm k)) (run_load_str X1 gn k 9 nmsL NX1.out (nm k) (nmsL_get k hk18)) ?_
          refine hK.out _ _ (trivial) (fun hHeld => ?_)
          clear hK K
          show wpAnyH _ _ _ _ _ _ _ (Act.put _ (some 33) _) _
          simp only [Act.put, List.setIfInBounds_toArray, List.set_cons_zero, List.set_cons_succ]
          refine wpAnyH_take (i := 7) (v := .bool false) rfl (by kernel_rfl) (by kernel_rfl) (by kernel_rfl) (fun _ _ _ h => h) (Or.inl ⟨by rfl, by intro w' h; go_simp⟩) hHeld ?_
          show wpAnyH _ _ _ _ _ _ _ (Act.put _ (some 37) _) _
          simp only [Act.put, List.setIfInBounds_toArray, List.set_cons_zero, List.set_cons_succ]
          refine wpAnyH_done (by kernel_rfl) ?_ _
          clear hHeld
          have HB4 := HBX1
          clear HBX1
          have m2 : ¬ ((m : Int) < (n : Int)) := by have h1 := HM0.out; have h2 := HL1.out; rw [HLL.out] at h2; omega
          have Fp : (0 : Int) < (F : Int) := by have h1 := HF.out; have h2 := HL2.out; omega
          go_wp2_with fail
          refine (HMO.out _).mono ?_
          rintro e w4 ⟨rfl, rfl⟩
          go_wp2_with fail
          go_ret2
          exact ⟨_, rfl, Oct.Own.nil _ _, HB4.out⟩
    · obtain ⟨i, rfl⟩ : ∃ i, k = i + 1 := ⟨k - 1, by omega⟩
      obtain rfl : x = (i : Int) := by have := HX.out; omega
      have i0 : (0 : Int) ≤ (i : Int) := Int.natCast_nonneg _
      have hil : i < s.data.toList.length := by rw [HLL.out]; omega
      have iN : (i : Int) < (n : Int) := by omega
      have his : i < s.size := by rw [HN.out]; omega
      have hst := spAt_step s.data.toList i hil
      have hge : s[i]'his = s.data.toList[i] := by rw [Array.getElem_toList]; rfl
      clear HX hk h0
      by_cases hc : s.data.toList[i] = 32
      · have hx : ((s[i]'his).toNat : Int) = 32 := by rw [hge, hc]; rfl
        rw [if_pos hc] at hst
        have HST := Lib.hid hst
        clear hge hc hst hil HM
        go_wp2_with fail
        exact ⟨⟨i, i, (i : Int) - 1, rfl, by go_num, by omega, Lib.hid rfl, Lib.hid HST.out.symm, HB⟩, by (simp [intOf] <;> omega)⟩
      · have hx : ¬ (((s[i]'his).toNat : Int) = 32) := by
          rw [hge]
          intro e
          apply hc
          have e2 : (s.data.toList[i]).toNat = (32 : UInt8).toNat := by
            show _ = 32
            omega
          exact UInt8.toNat_inj.1 e2
        rw [if_neg hc] at hst
        have HST : Hid (m = i + spAt (s.data.toList.drop i)) := Lib.hid (by rw [hst]; exact HM.out)
        clear hge hc hst hil HM
        go_wp2_with fail
        exact ⟨⟨i, m, (i : Int) - 1, rfl, by go_num, by omega, Lib.hid rfl, HST, HB⟩, by (simp [intOf] <;> omega)⟩

set_option maxRecDepth 100000 in
set_option maxHeartbeats 8000000 in
theorem rline_bare (s : ByteArray) (op : Nat) (w : World) (hs : s.size ≤ 4096) (ho : op < 18) (hop : lnName s = nm op) (HL1 : Hid (¬ spAt s.data.toList < s.data.toList.length)) (HL2 : Hid (fol op = 0)) : Calls Tryd.prog 36 #[.string s] w (ParPost w 0 [(op : Int)]) := by
  have HNAME : Hid (∀ j, j < op → nm j ≠ lnName s) := Lib.hid fun j hj e => by
    rw [hop] at e
    have h1 := opF_nm j (by omega)
    have h2 := opF_nm op ho
    rw [e, h2] at h1
    injection h1 with h1 _
    omega
  have HHAS := Lib.hid (ln_has s)
  have HNUM := Lib.hid (ln_num s)
  have HOP := Lib.hid hop
  clear hop
  obtain ⟨n, hn⟩ : ∃ n, s.size = n := ⟨_, rfl⟩
  have hln : s.data.toList.length = n := by rw [Array.length_toList]; exact hn
  have HLL := Lib.hid hln
  have HN := Lib.hid hn
  have n9 : (n : Int) ≤ 4096 := by omega
  have n0 : (0 : Int) ≤ (n : Int) := Int.natCast_nonneg _
  have hns : (s.size : Int) = (n : Int) := by rw [hn]
  clear hln hn
  go_enter Tryd.func36, Tryd.ntmps36
  go_wp2_with fail
  go_loopw [4, 5] (fun c i wr => ∃ (k m : Nat) (x : Int), c = .int .i64 (m : Int) ∧ i = .int .i64 x ∧ k ≤ n ∧ Hid (x = (k : Int) - 1) ∧ Hid (m = k + spAt (s.data.toList.drop k)) ∧ Hid (Below w.heap.size w wr)) (fun _ i _ => (intOf i + 1).toNat)
  case atStart => exact ⟨n, n, (n : Int) - 1, rfl, rfl, Nat.le_refl _, Lib.hid rfl, Lib.hid (by rw [List.drop_of_length_le (by rw [HLL.out]; exact Nat.le_refl _)]; rfl), Lib.hid (Below.refl _ _)⟩
  case round =>
    obtain ⟨k, m, x, rfl, rfl, hk, HX, HM, HB⟩ := hrel
    by_cases h0 : k = 0
    · subst h0
      obtain rfl : x = -1 := by have := HX.out; omega
      have HM0 : Hid (m = spAt s.data.toList) := Lib.hid (by have := HM.out; simpa using this)
      clear HM HX
      have hmn : m ≤ n := by have h1 := spAt_le s.data.toList; rw [HLL.out] at h1; have := HM0.out; omega
      have hm1 : (m : Int) ≤ (n : Int) := by omega
      have hm0 : (0 : Int) ≤ (m : Int) := Int.natCast_nonneg _
      obtain ⟨NM, hNM⟩ : ∃ x, lnName s = x := ⟨_, rfl⟩
      have hpre : s.extract 0 m = NM := by
        rw [← hNM]
        exact ba_ext (by rw [extract_list s 0 m (Nat.zero_le _) (by rw [HN.out]; exact hmn), ln_name, List.drop_zero, Nat.sub_zero, HM0.out])
      have HPRE : Hid (∀ W : World, (Instr.slice 9 (.string s) none (some (.int .i64 (m : Int))) none).run Tryd.prog W = .ok (.string NM) W) := Lib.hid fun W => by rw [← hpre]; exact run_pre s m (by rw [HN.out]; exact hmn) W
      rw [hNM] at HNAME
      have HNM := Lib.hid hNM
      clear hNM hpre
      go_wp2_with fail
      go_loopw [6] (fun o wr => ∃ k : Nat, o = .int .i64 (k : Int) ∧ k ≤ op ∧ Hid (Below w.heap.size w wr)) (fun o _ => 18 - (intOf o).toNat)
      case atStart => exact ⟨0, rfl, Nat.zero_le _, HB⟩
      case round =>
        obtain ⟨k, rfl, hk, HB⟩ := hrel
        have k0 : (0 : Int) ≤ (k : Int) := Int.natCast_nonneg _
        by_cases hlt : k < op
        · have k8 : (k : Int) < 18 := by omega
          have hk18 : k < 18 := by omega
          have hne : ((nm k).toList == NM.toList) = false := by
            rw [beq_eq_false_iff_ne, ByteArray.toList_eq, ByteArray.toList_eq]
            exact fun h => HNAME.out k (by omega) (ByteArray.ext (Array.ext' h))
          go_upto_region 10 with fail
          have hBz : Below wr.heap.size wr wr.drew := below_drewN (Below.refl _ _) 1
          have HBX0 : Hid (Below w.heap.size w wr.drew) := Lib.hid (HB.out.trans (hBz.mono HB.out.size))
          clear hBz
          refine wp_region_held_drew (S := fun w' => True) (by kernel_rfl) (trivial) (fun hHeld => ?_)
          generalize wr.drew = X0 at hHeld HBX0 ⊢
          refine wpAnyH_take (i := 1) (v := .int .i64 (k : Int)) rfl (by kernel_rfl) (by kernel_rfl) (by kernel_rfl) (fun _ _ _ h => h) (Or.inl ⟨by rfl, fun w _ => by rfl⟩) hHeld ?_
          show wpAnyH _ _ _ _ _ _ _ (Act.put _ (some 31) _) _
          simp only [Act.put, List.setIfInBounds_toArray, List.set_cons_zero, List.set_cons_succ]
          refine wpAnyH_take (i := 4) (v := .string s) rfl (by kernel_rfl) (by kernel_rfl) (by kernel_rfl) (fun _ _ _ h => h) (Or.inl ⟨by rfl, fun w _ => by rfl⟩) hHeld ?_
          show wpAnyH _ _ _ _ _ _ _ (Act.put _ (some 34) _) _
          simp only [Act.put, List.setIfInBounds_toArray, List.set_cons_zero, List.set_cons_succ]
          refine wpAnyH_take (i := 5) (v := .int .i64 (m : Int)) rfl (by kernel_rfl) (by kernel_rfl) (by kernel_rfl) (fun _ _ _ h => h) (Or.inl ⟨by rfl, fun w _ => by rfl⟩) hHeld ?_
          show wpAnyH _ _ _ _ _ _ _ (Act.put _ (some 35) _) _
          simp only [Act.put, List.setIfInBounds_toArray, List.set_cons_zero, List.set_cons_succ]
          refine wpAnyH_take (i := 6) (v := .string NM) rfl (by kernel_rfl) (by kernel_rfl) (by kernel_rfl) (fun _ _ _ h => h) (Or.inl ⟨by rfl, by intro w' h; have hh := HPRE.out w'; go_simp⟩) hHeld ?_
          show wpAnyH _ _ _ _ _ _ _ (Act.put _ (some 36) _) _
          simp only [Act.put, List.setIfInBounds_toArray, List.set_cons_zero, List.set_cons_succ]
          refine wpAnyH_ready (rs := [0]) (by kernel_rfl) (by simp) ?_
          refine AllReadyH.cons rfl (fun K hK => ?_) AllReadyH.nil
          refine step_call rfl 32 #[] #[] rfl #[] (by simp) (by go_simp) (names_any X0) ?_
          rintro e X1 ⟨rfl, hN, hB⟩
          obtain ⟨gn, hgn⟩ : ∃ x, X0.heap.size = x := ⟨_, rfl⟩
          rw [hgn] at hN ⊢
          have HBX1 : Hid (Below w.heap.size w X1) := Lib.hid (HBX0.out.trans (hB.mono HBX0.out.size))
          have NX1 : Hid (Blk X1 gn 9 nmsL) := Lib.hid (hN)
          clear HBX0 hB hN hgn
          refine ⟨_, rfl, hK.out _ _ (trivial) (fun hHeld => ?_)⟩
          clear hK K
          show wpAnyH _ _ _ _ _ _ _ (Act.put _ (some 30) _) _
          simp only [Act.put, List.setIfInBounds_toArray, List.set_cons_zero, List.set_cons_succ]
          refine wpAnyH_take (i := 2) (v := .pointer (some ⟨gn, k, none⟩)) rfl (by kernel_rfl) (by kernel_rfl) (by kernel_rfl) (fun _ _ _ h => h) (Or.inl ⟨by rfl, by intro w' h; go_simp⟩) hHeld ?_
          show wpAnyH _ _ _ _ _ _ _ (Act.put _ (some 32) _) _
          simp only [Act.put, List.setIfInBounds_toArray, List.set_cons_zero, List.set_cons_succ]
          refine wpAnyH_ready (rs := [3]) (by kernel_rfl) (by simp) ?_
          refine AllReadyH.cons rfl (fun K hK => ?_) AllReadyH.nil
          refine step_ld rfl 9 (.tmp 32) rfl gn k rfl (.string (nm k)) (run_load_str X1 gn k 9 nmsL NX1.out (nm k) (nmsL_get k hk18)) ?_
          refine hK.out _ _ (trivial) (fun hHeld => ?_)
          clear hK K
          show wpAnyH _ _ _ _ _ _ _ (Act.put _ (some 33) _) _
          simp only [Act.put, List.setIfInBounds_toArray, List.set_cons_zero, List.set_cons_succ]
          refine wpAnyH_take (i := 7) (v := .bool true) rfl (by kernel_rfl) (by kernel_rfl) (by kernel_rfl) (fun _ _ _ h => h) (Or.inl ⟨by rfl, by intro w' h; go_simp⟩) hHeld ?_
          show wpAnyH _ _ _ _ _ _ _ (Act.put _ (some 37) _) _
          simp only [Act.put, List.setIfInBounds_toArray, List.set_cons_zero, List.set_cons_succ]
          refine wpAnyH_done (by kernel_rfl) ?_ _
          clear hHeld
          go_wp2_with fail
          exact ⟨⟨k + 1, by go_num, by omega, HBX1⟩, by simp [intOf] <;> omega⟩
        · obtain rfl : k = op := by omega
          have k8 : (k : Int) < 18 := by omega
          have hk18 : k < 18 := ho
          have hne : ((nm k).toList == NM.toList) = true := by rw [← HNM.out, HOP.out]; simp
          have hw8 : IntKind.u8.wrap (k : Int) = k := IntWalk.u8_in _ ⟨by omega, by omega⟩
          have HMO := Lib.hid (more_any k hk18)
          obtain ⟨F, hF⟩ : ∃ x, fol k = x := ⟨_, rfl⟩
          rw [hF] at HMO
          have HF := Lib.hid hF
          have hf4 := fol_in k
          rw [hF] at hf4
          have HF4 := Lib.hid hf4
          have F0 : (0 : Int) ≤ (F : Int) := Int.natCast_nonneg _
          clear hF hf4
          go_upto_region 10 with fail
          have hBz : Below wr.heap.size wr wr.drew := below_drewN (Below.refl _ _) 1
          have HBX0 : Hid (Below w.heap.size w wr.drew) := Lib.hid (HB.out.trans (hBz.mono HB.out.size))
          clear hBz
          refine wp_region_held_drew (S := fun w' => True) (by kernel_rfl) (trivial) (fun hHeld => ?_)
          generalize wr.drew = X0 at hHeld HBX0 ⊢
          refine wpAnyH_take (i := 1) (v := .int .i64 (k : Int)) rfl (by kernel_rfl) (by kernel_rfl) (by kernel_rfl) (fun _ _ _ h => h) (Or.inl ⟨by rfl, fun w _ => by rfl⟩) hHeld ?_
          show wpAnyH _ _ _ _ _ _ _ (Act.put _ (some 31) _) _
          simp only [Act.put, List.setIfInBounds_toArray, List.set_cons_zero, List.set_cons_succ]
          refine wpAnyH_take (i := 4) (v := .string s) rfl (by kernel_rfl) (by kernel_rfl) (by kernel_rfl) (fun _ _ _ h => h) (Or.inl ⟨by rfl, fun w _ => by rfl⟩) hHeld ?_
          show wpAnyH _ _ _ _ _ _ _ (Act.put _ (some 34) _) _
          simp only [Act.put, List.setIfInBounds_toArray, List.set_cons_zero, List.set_cons_succ]
          refine wpAnyH_take (i := 5) (v := .int .i64 (m : Int)) rfl (by kernel_rfl) (by kernel_rfl) (by kernel_rfl) (fun _ _ _ h => h) (Or.inl ⟨by rfl, fun w _ => by rfl⟩) hHeld ?_
          show wpAnyH _ _ _ _ _ _ _ (Act.put _ (some 35) _) _
          simp only [Act.put, List.setIfInBounds_toArray, List.set_cons_zero, List.set_cons_succ]
          refine wpAnyH_take (i := 6) (v := .string NM) rfl (by kernel_rfl) (by kernel_rfl) (by kernel_rfl) (fun _ _ _ h => h) (Or.inl ⟨by rfl, by intro w' h; have hh := HPRE.out w'; go_simp⟩) hHeld ?_
          show wpAnyH _ _ _ _ _ _ _ (Act.put _ (some 36) _) _
          simp only [Act.put, List.setIfInBounds_toArray, List.set_cons_zero, List.set_cons_succ]
          refine wpAnyH_ready (rs := [0]) (by kernel_rfl) (by simp) ?_
          refine AllReadyH.cons rfl (fun K hK => ?_) AllReadyH.nil
          refine step_call rfl 32 #[] #[] rfl #[] (by simp) (by go_simp) (names_any X0) ?_
          rintro e X1 ⟨rfl, hN, hB⟩
          obtain ⟨gn, hgn⟩ : ∃ x, X0.heap.size = x := ⟨_, rfl⟩
          rw [hgn] at hN ⊢
          have HBX1 : Hid (Below w.heap.size w X1) := Lib.hid (HBX0.out.trans (hB.mono HBX0.out.size))
          have NX1 : Hid (Blk X1 gn 9 nmsL) := Lib.hid (hN)
          clear HBX0 hB hN hgn
          refine ⟨_, rfl, hK.out _ _ (trivial) (fun hHeld => ?_)⟩
          clear hK K
          show wpAnyH _ _ _ _ _ _ _ (Act.put _ (some 30) _) _
          simp only [Act.put, List.setIfInBounds_toArray, List.set_cons_zero, List.set_cons_succ]
          refine wpAnyH_take (i := 2) (v := .pointer (some ⟨gn, k, none⟩)) rfl (by kernel_rfl) (by kernel_rfl) (by kernel_rfl) (fun _ _ _ h => h) (Or.inl ⟨by rfl, by intro w' h; go_simp⟩) hHeld ?_
          show wpAnyH _ _ _ _ _ _ _ (Act.put _ (some 32) _) _
          simp only [Act.put, List.setIfInBounds_toArray, List.set_cons_zero, List.set_cons_succ]
          refine wpAnyH_ready (rs := [3]) (by kernel_rfl) (by simp) ?_
          refine AllReadyH.cons rfl (fun K hK => ?_) AllReadyH.nil
          refine step_ld rfl 9 (.tmp 32) rfl gn k rfl (.string (nm k)) (run_load_str X1 gn k 9 nmsL NX1.out (nm k) (nmsL_get k hk18)) ?_
          refine hK.out _ _ (trivial) (fun hHeld => ?_)
          clear hK K
          show wpAnyH _ _ _ _ _ _ _ (Act.put _ (some 33) _) _
          simp only [Act.put, List.setIfInBounds_toArray, List.set_cons_zero, List.set_cons_succ]
          refine wpAnyH_take (i := 7) (v := .bool false) rfl (by kernel_rfl) (by kernel_rfl) (by kernel_rfl) (fun _ _ _ h => h) (Or.inl ⟨by rfl, by intro w' h; go_simp⟩) hHeld ?_
          show wpAnyH _ _ _ _ _ _ _ (Act.put _ (some 37) _) _
          simp only [Act.put, List.setIfInBounds_toArray, List.set_cons_zero, List.set_cons_succ]
          refine wpAnyH_done (by kernel_rfl) ?_ _
          clear hHeld
          have HB4 := HBX1
          clear HBX1
          have m2 : ¬ ((m : Int) < (n : Int)) := by have h1 := HM0.out; have h2 := HL1.out; rw [HLL.out] at h2; omega
          obtain rfl : F = 0 := by rw [← HF.out]; exact HL2.out
          have m3 : (m : Int) = (n : Int) := by omega
          go_wp2_with fail
          refine (HMO.out _).mono ?_
          rintro e w4 ⟨rfl, rfl⟩
          go_wp2_with fail
          go_ret2
          exact ⟨_, rfl, own_lit HB4.out.size (k : Int), HB4.out.alloc HB4.out.size _⟩
    · obtain ⟨i, rfl⟩ : ∃ i, k = i + 1 := ⟨k - 1, by omega⟩
      obtain rfl : x = (i : Int) := by have := HX.out; omega
      have i0 : (0 : Int) ≤ (i : Int) := Int.natCast_nonneg _
      have hil : i < s.data.toList.length := by rw [HLL.out]; omega
      have iN : (i : Int) < (n : Int) := by omega
      have his : i < s.size := by rw [HN.out]; omega
      have hst := spAt_step s.data.toList i hil
      have hge : s[i]'his = s.data.toList[i] := by rw [Array.getElem_toList]; rfl
      clear HX hk h0
      by_cases hc : s.data.toList[i] = 32
      · have hx : ((s[i]'his).toNat : Int) = 32 := by rw [hge, hc]; rfl
        rw [if_pos hc] at hst
        have HST := Lib.hid hst
        clear hge hc hst hil HM
        go_wp2_with fail
        exact ⟨⟨i, i, (i : Int) - 1, rfl, by go_num, by omega, Lib.hid rfl, Lib.hid HST.out.symm, HB⟩, by (simp [intOf] <;> omega)⟩
      · have hx : ¬ (((s[i]'his).toNat : Int) = 32) := by
          rw [hge]
          intro e
          apply hc
          have e2 : (s.data.toList[i]).toNat = (32 : UInt8).toNat := by
            show _ = 32
            omega
          exact UInt8.toNat_inj.1 e2
        rw [if_neg hc] at hst
        have HST : Hid (m = i + spAt (s.data.toList.drop i)) := Lib.hid (by rw [hst]; exact HM.out)
        clear hge hc hst hil HM
        go_wp2_with fail
        exact ⟨⟨i, m, (i : Int) - 1, rfl, by go_num, by omega, Lib.hid rfl, HST, HB⟩, by (simp [intOf] <;> omega)⟩
end Go.Proofs.YtkilajobnlagbaaDoor
