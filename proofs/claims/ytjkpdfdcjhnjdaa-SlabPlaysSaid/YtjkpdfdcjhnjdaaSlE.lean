/-
  A slab's Crash.
-/
import Derived.Test.YtjkpdfdcjhnjdaaSlD
namespace Go.Proofs.Ytjkpdfdcjhnjdaa
open Go.RowKit
set_option linter.unusedVariables false

theorem step_store1x {ops : Array Oper} {o : Oper} {a : Act} {w : World} {K : Act → World → Prop} {Q : Exit → Act → World → Prop} {E : Prop} (hw : Region.wanted o (yielded ops a.tmps) = true) (ty : TypeId) (x y : Operand) (ho : o.op = .store ty x y)
    (b off : Nat) (v : Value) (hx : a.eval x = .pointer (some ⟨b, off, none⟩)) (hy : a.eval y = v) (ht : w.there b off 1) (hi : (Try.prog.info? ty).map (·.size) = some 1) (h1 : v.oneCell' = true) (hc : v.cells = #[v])
    (h : K (a.put o.dst undef) (w.setCell ⟨b, off, none⟩ v)) : if Region.wanted o (yielded ops a.tmps) = true then Oper.wp Try.prog o a w K Q else E := by
  rw [if_pos hw]
  have h0 := run_storeCells_cells (P := Try.prog) b off [v] 0 w (fun j hj => by simpa using (ht j (by simpa using hj)).1) (fun j hj => by simpa using (ht j (by simpa using hj)).2) (fun u hu => by simp at hu; subst hu; exact h1)
  have hrun : (storeVar ty ⟨b, off, none⟩ v).run Try.prog w = .ok () (w.setCell ⟨b, off, none⟩ v) := by
    cases hq : Try.prog.info? ty with
    | none => simp [hq] at hi
    | some i =>
      have hs : i.size = 1 := by simpa [hq] using hi
      simp only [Nat.add_zero] at h0
      simp [storeVar, sizeOf, typeInfo, hq, hc, hs, h0]
      rfl
  unfold Oper.wp execOp
  simp only [ho, hx, hy, Instr.storeAt, Instr.sureAddr, Sem.run_bind, Sem.run_pure, Result.andThen_ok, hrun]
  exact h

theorem cutLo (A : Option Addr) (L c h : Nat) (hh : h ≤ c) (W : World) : (Instr.slice 27 (.slice A L c) none (some (.int .i64 (h : Int))) none).run Try.prog W = .ok (.slice A h c) W := by
  obtain ⟨i0, hi, hz0, hz1, hz2⟩ := info_parts byte_info
  rw [run_slice_h (P := Try.prog) W 27 A L c (by kernel_rfl) .i64 (h : Int) (by omega) (by omega), show Try.prog.elem 27 = 5 by kernel_rfl]
  cases A <;> simp [sizeOf, typeInfo, hi, sliced, Addr.add]
/-- Fewer of an own row's bytes. -/
theorem Own.cut {w : World} {base n c j : Nat} {A : Option Addr} {l : List Int} (h : Own w base (.slice A n c) l) (hj : j ≤ l.length) : Own w base (.slice A j c) (l.take j) ∧ l.length ≤ c := by
  rcases h.2 with ⟨h1, h0⟩ | ⟨g, cap, cur, hv, hb, hg, hn, hcm, hcs, htk⟩
  · injection h1 with h1 h2 h3
    subst h1 h2 h3
    have hl : l = [] := List.eq_nil_of_length_eq_zero h0
    subst hl
    simp at hj
    subst hj
    exact ⟨Own.nil _ _, Nat.le_refl _⟩
  · injection hv with h1 h2 h3
    subst h1 h3
    refine ⟨⟨by rw [byt_length]; omega, .inr ⟨g, c, cur, ?_, hb, hg, ?_, hcm, hcs, ?_⟩⟩, hn⟩
    · rw [List.length_take, Nat.min_eq_left hj]
    · rw [List.length_take]; omega
    · rw [List.length_take, Nat.min_eq_left hj, ← byt_take, ← htk, List.take_take]
      congr 1; omega

def crsK (s : SS) (keep : Int) : Nat := nearN keep (loose s)
def crsZ (s : SS) (keep zeros : Int) : Nat := nearN zeros (loose s - crsK s keep)
def crsL (s : SS) (keep zeros : Int) : List Int := s.l.take (s.k + crsK s keep) ++ List.replicate (crsZ s keep zeros) 0
def crsS (s : SS) (keep zeros : Int) : SS := ⟨crsL s keep zeros, (crsL s keep zeros).length, s.st, -1, false⟩
def CrsPost (base b : Nat) (v : Value) (s : SS) (keep zeros : Int) (w : World) (e : Ending) (w' : World) : Prop := ∃ v', e = .returned (.int .i64 0) ∧ AtS w' base b v' (crsS s keep zeros) ∧ OnlyS (Of b v) w w' ∧ Lies w v v'

theorem crs_nil (a b : Value) (w : World) : Calls Try.prog 17 #[.pointer none, a, b] w fun e w' => e = .returned (.int .i64 2) ∧ w = w' := by
  go_enter Try.func17, Try.ntmps17
  go_wp2
  go_ret
  exact ⟨rfl, rfl⟩
set_option maxRecDepth 100000 in
set_option maxHeartbeats 2000000 in
theorem crs_any (base b : Nat) (v : Value) (s : SS) (keep zeros : Int) (w : World) (h : AtS w base b v s) (hb : base ≤ w.heap.size) : Calls Try.prog 17 #[.pointer (some ⟨b, 0, none⟩), .int .i64 keep, .int .i64 zeros] w (CrsPost base b v s keep zeros w) := by
  obtain ⟨kp, hkp⟩ : ∃ kp, crsK s keep = kp := ⟨_, rfl⟩
  obtain ⟨z, hz⟩ : ∃ z, crsZ s keep zeros = z := ⟨_, rfl⟩
  obtain ⟨q, hq⟩ : ∃ q, loose s = q := ⟨_, rfl⟩
  have hkq : kp ≤ q := by rw [← hkp, ← hq]; exact nearN_le _ _
  have hzq : z ≤ q - kp := by rw [← hz, ← hkp, ← hq]; exact nearN_le _ _
  have hk1 := h.kl
  have hsm := h.small
  have H := Lib.hid h
  obtain ⟨A, c, hv, _⟩ := h.slice
  have HK : Hid (nearN keep q = kp) := Lib.hid (by rw [← hkp, ← hq]; rfl)
  have HZ0 : Hid (nearN zeros (q - kp) = z) := Lib.hid (by rw [← hz, ← hkp, ← hq]; rfl)
  have HCS : Hid (crsS s keep zeros = ⟨s.l.take (s.k + kp) ++ List.replicate z 0, (s.l.take (s.k + kp) ++ List.replicate z 0).length, s.st, -1, false⟩) := Lib.hid (by unfold crsS crsL; rw [hkp, hz])
  have HLO := Lib.hid (loo_any base b v s w h)
  have HLO2 := fun n => loo_any base b v s (w.drewN n) (h.keep (below_drewN (Below.refl _ _) n))
  rw [hq] at HLO HLO2
  have HLO2 := Lib.hid HLO2
  have HQ : Hid (s.l.length - s.k = q) := Lib.hid hq
  clear h hkp hz hq
  obtain ⟨l, k, st, fu, dn⟩ := s
  simp only at hk1 hsm HCS HQ
  obtain ⟨m, hm⟩ : ∃ m, l.length = m := ⟨_, rfl⟩
  rw [hm] at hk1 hsm HQ
  have hqm := HQ.out
  obtain ⟨J, hJ⟩ : ∃ J, k + kp = J := ⟨_, rfl⟩
  rw [hJ] at HCS
  have HJ : Hid ((k : Int) + (kp : Int) = (J : Int)) := Lib.hid (by omega)
  have hJm : J ≤ m := by omega
  have HJW : Hid (IntKind.i64.wrap (J : Int) = (J : Int)) := Lib.hid (by rw [IntKind.wrap_i64]; omega)
  simp only at hv
  rw [hm] at hv
  subst hv
  have HT0 : Hid (Blk w b 46 [.slice A m c, .int .i64 (k : Int), .int .i64 st, .int .i64 fu, .bool dn]) := Lib.hid H.out.top
  have HR0 : Hid (Own w base (.slice A m c) l) := Lib.hid H.out.row
  have HJL : Hid (J ≤ l.length) := Lib.hid (by omega)
  have HJC : Hid (J ≤ c) := Lib.hid (by have := (HR0.out.cut (j := J) HJL.out).2; omega)
  have HZ : Hid ((l.take J).length + z ≤ 1048576) := Lib.hid (by rw [List.length_take]; omega)
  obtain ⟨N, hN⟩ : ∃ N, (l.take J ++ List.replicate z 0).length = N := ⟨_, rfl⟩
  have HNS : Hid (N ≤ 262144) := Lib.hid (by rw [← hN, List.length_append, List.length_take, List.length_replicate]; omega)
  have HLN := Lib.hid hN
  rw [hN] at HCS
  have HBS := Lib.hid hb
  clear H hN hm HQ
  have hJs : (J : Int) ≤ 262144 := by omega
  have hk9 : (kp : Int) ≤ 262144 := by omega
  have hk8 : (k : Int) ≤ 262144 := by omega
  have hq9 : (q : Int) ≤ 262144 := by omega
  have hqk : (q : Int) - (kp : Int) = ((q - kp : Nat) : Int) := by omega
  have HQK := Lib.hid hqk
  clear hJ hqk hb hzq
  go_enter Try.func17, Try.ntmps17
  go_wp2_with fail
  refine HLO.out.mono ?_
  rintro e w1 ⟨rfl, n1, rfl⟩
  go_wp2_with fail
  refine (within_any keep q _).mono ?_
  rintro e w1 ⟨rfl, rfl⟩
  rw [HK.out]
  go_wp2_with fail
  refine (HLO2.out n1).mono ?_
  rintro e w1 ⟨rfl, n2, rfl⟩
  have HX := HQK.out
  go_wp2_with fail
  clear HX
  refine (within_any zeros (q - kp) _).mono ?_
  rintro e w1 ⟨rfl, rfl⟩
  rw [HZ0.out]
  clear HLO HLO2 HK HZ0 HQK
  have hBz : Below w.heap.size w (w.drewN (n1 + n2)) := below_drewN (Below.refl _ _) _
  have TW := Lib.hid (HT0.out.below hBz HT0.out.lt)
  have RW := Lib.hid (HR0.out.below hBz (Nat.le_refl _))
  have CW : Hid ((w.drewN (n1 + n2)).cell? ⟨b, 1, none⟩ = some (.int .i64 (k : Int))) := Lib.hid (TW.out.cell 1)
  have BW : Hid (base ≤ (w.drewN (n1 + n2)).heap.size) := HBS
  have OW : Hid (OnlyS (Of b (.slice A m c)) w (w.drewN (n1 + n2))) := Lib.hid (OnlyS.of_below hBz)
  clear hBz HT0 HR0 HBS
  go_upto_region 5 with fail
  generalize w.drewN (n1 + n2) = W at TW RW BW OW CW ⊢
  have hBz : Below W.heap.size W W.drew := below_drewN (Below.refl _ _) 1
  have CX0 : Hid (W.drew.cell? ⟨b, 1, none⟩ = some (.int .i64 (k : Int))) := Lib.hid ((hBz.cell (p := ⟨b, 1, none⟩) (World.block_lt_of_cell? _ _ CW.out)).trans CW.out)
  have TX0 : Hid (Blk W.drew b 46 [.slice A m c, .int .i64 (k : Int), .int .i64 st, .int .i64 fu, .bool dn]) := Lib.hid (TW.out.below hBz TW.out.lt)
  have RX0 : Hid (Own W.drew base (.slice A m c) l) := Lib.hid (RW.out.below hBz (Nat.le_refl _))
  have BX0 : Hid (base ≤ W.drew.heap.size) := Lib.hid (Nat.le_trans BW.out hBz.size)
  have OX0 : Hid (OnlyS (Of b (.slice A m c)) w W.drew) := Lib.hid (OW.out.trans (OnlyS.of_below hBz))
  clear hBz
  refine wp_region_held_drew (S := fun w' => w'.cell? ⟨b, 1, none⟩ = some (.int .i64 (k : Int))) (by kernel_rfl) (CX0.out) (fun hHeld => ?_)
  generalize W.drew = X0 at hHeld CX0 TX0 RX0 BX0 OX0 ⊢
  refine wpAnyH_take (i := 0) (v := .pointer (some ⟨b, 0, none⟩)) rfl (by kernel_rfl) (by kernel_rfl) (by kernel_rfl) (fun _ _ _ h => h) (Or.inl ⟨by rfl, fun w _ => by rfl⟩) hHeld ?_
  show wpAnyH _ _ _ _ _ _ _ (Act.put _ (some 19) _) _
  simp only [Act.put, List.setIfInBounds_toArray, List.set_cons_zero, List.set_cons_succ]
  refine wpAnyH_take (i := 1) (v := .pointer (some ⟨b, 0, none⟩)) rfl (by kernel_rfl) (by kernel_rfl) (by kernel_rfl) (fun _ _ _ h => h) (Or.inl ⟨by rfl, fun w _ => by rfl⟩) hHeld ?_
  show wpAnyH _ _ _ _ _ _ _ (Act.put _ (some 20) _) _
  simp only [Act.put, List.setIfInBounds_toArray, List.set_cons_zero, List.set_cons_succ]
  refine wpAnyH_take (i := 2) (v := .pointer (some ⟨b, 0, none⟩)) rfl (by kernel_rfl) (by kernel_rfl) (by kernel_rfl) (fun _ _ _ h => h) (Or.inl ⟨by rfl, by intro w' h; go_simp⟩) hHeld ?_
  show wpAnyH _ _ _ _ _ _ _ (Act.put _ (some 21) _) _
  simp only [Act.put, List.setIfInBounds_toArray, List.set_cons_zero, List.set_cons_succ]
  refine wpAnyH_take (i := 3) (v := .pointer (some ⟨b, 0, none⟩)) rfl (by kernel_rfl) (by kernel_rfl) (by kernel_rfl) (fun _ _ _ h => h) (Or.inl ⟨by rfl, by intro w' h; go_simp⟩) hHeld ?_
  show wpAnyH _ _ _ _ _ _ _ (Act.put _ (some 22) _) _
  simp only [Act.put, List.setIfInBounds_toArray, List.set_cons_zero, List.set_cons_succ]
  refine wpAnyH_take (i := 5) (v := .pointer (some ⟨b, 0, none⟩)) rfl (by kernel_rfl) (by kernel_rfl) (by kernel_rfl) (fun _ _ _ h => h) (Or.inl ⟨by rfl, fun w _ => by rfl⟩) hHeld ?_
  show wpAnyH _ _ _ _ _ _ _ (Act.put _ (some 24) _) _
  simp only [Act.put, List.setIfInBounds_toArray, List.set_cons_zero, List.set_cons_succ]
  refine wpAnyH_take (i := 6) (v := .pointer (some ⟨b, 0, none⟩)) rfl (by kernel_rfl) (by kernel_rfl) (by kernel_rfl) (fun _ _ _ h => h) (Or.inl ⟨by rfl, by intro w' h; go_simp⟩) hHeld ?_
  show wpAnyH _ _ _ _ _ _ _ (Act.put _ (some 25) _) _
  simp only [Act.put, List.setIfInBounds_toArray, List.set_cons_zero, List.set_cons_succ]
  refine wpAnyH_take (i := 7) (v := .pointer (some ⟨b, 1, none⟩)) rfl (by kernel_rfl) (by kernel_rfl) (by kernel_rfl) (fun _ _ _ h => h) (Or.inl ⟨by rfl, by intro w' h; go_simp⟩) hHeld ?_
  show wpAnyH _ _ _ _ _ _ _ (Act.put _ (some 26) _) _
  simp only [Act.put, List.setIfInBounds_toArray, List.set_cons_zero, List.set_cons_succ]
  refine wpAnyH_take (i := 8) (v := .int .i64 (k : Int)) rfl (by kernel_rfl) (by kernel_rfl) (by kernel_rfl) (fun _ _ _ h => h) (Or.inl ⟨by rfl, by intro w' h; go_simp⟩) hHeld ?_
  show wpAnyH _ _ _ _ _ _ _ (Act.put _ (some 27) _) _
  simp only [Act.put, List.setIfInBounds_toArray, List.set_cons_zero, List.set_cons_succ]
  refine wpAnyH_take (i := 9) (v := .int .i64 (kp : Int)) rfl (by kernel_rfl) (by kernel_rfl) (by kernel_rfl) (fun _ _ _ h => h) (Or.inl ⟨by rfl, fun w _ => by rfl⟩) hHeld ?_
  show wpAnyH _ _ _ _ _ _ _ (Act.put _ (some 28) _) _
  simp only [Act.put, List.setIfInBounds_toArray, List.set_cons_zero, List.set_cons_succ]
  refine wpAnyH_take (i := 10) (v := .int .i64 (J : Int)) rfl (by kernel_rfl) (by kernel_rfl) (by kernel_rfl) (fun _ _ _ h => h) (Or.inl ⟨by rfl, by intro w' h; have q9 := HJ.out; have q8 := HJW.out; go_simp⟩) hHeld ?_
  show wpAnyH _ _ _ _ _ _ _ (Act.put _ (some 29) _) _
  simp only [Act.put, List.setIfInBounds_toArray, List.set_cons_zero, List.set_cons_succ]
  refine wpAnyH_take (i := 12) (v := .int .i64 (z : Int)) rfl (by kernel_rfl) (by kernel_rfl) (by kernel_rfl) (fun _ _ _ h => h) (Or.inl ⟨by rfl, fun w _ => by rfl⟩) hHeld ?_
  show wpAnyH _ _ _ _ _ _ _ (Act.put _ (some 31) _) _
  simp only [Act.put, List.setIfInBounds_toArray, List.set_cons_zero, List.set_cons_succ]
  refine wpAnyH_ready (rs := [4]) (by kernel_rfl) (by simp) ?_
  refine AllReadyH.cons rfl (fun K hK => ?_) AllReadyH.nil
  refine step_val rfl (.slice A m c) X0 (by have q9 := TX0.out.cell 0; go_simp) ?_
  refine hK.out _ _ (CX0.out) (fun hHeld => ?_)
  clear hK K
  show wpAnyH _ _ _ _ _ _ _ (Act.put _ (some 23) _) _
  simp only [Act.put, List.setIfInBounds_toArray, List.set_cons_zero, List.set_cons_succ]
  refine wpAnyH_take (i := 11) (v := .slice A J c) rfl (by kernel_rfl) (by kernel_rfl) (by kernel_rfl) (fun _ _ _ h => h) (Or.inl ⟨by rfl, by intro w' h; have q9 := cutLo A m c J HJC.out w'; go_simp⟩) hHeld ?_
  show wpAnyH _ _ _ _ _ _ _ (Act.put _ (some 30) _) _
  simp only [Act.put, List.setIfInBounds_toArray, List.set_cons_zero, List.set_cons_succ]
  refine wpAnyH_ready (rs := [13]) (by kernel_rfl) (by simp) ?_
  refine AllReadyH.cons rfl (fun K hK => ?_) AllReadyH.nil
  refine step_app0 rfl (.tmp 30) (.tmp 31) 27 3 .i64 rfl Try.underlying27 Try.underlying3 base (.slice A J c) (l.take J) z rfl (RX0.out.cut HJL.out).1 rfl HZ.out BX0.out ?_
  intro v2 X2 hOw hg hL
  rw [show (Value.slice A J c).ownBlock = (Value.slice A m c).ownBlock by cases A <;> rfl] at hg
  have hL : v2.ownBlock = (Value.slice A m c).ownBlock ∨ ∃ g, X0.heap.size ≤ g ∧ v2.ownBlock = some g := by
    rw [← show (Value.slice A J c).ownBlock = (Value.slice A m c).ownBlock by cases A <;> rfl]
    exact hL
  have RX2 : Hid (Own X2 base v2 (l.take J ++ List.replicate z 0)) := Lib.hid hOw
  have TX2 : Hid (Blk X2 b 46 [.slice A m c, .int .i64 (k : Int), .int .i64 st, .int .i64 fu, .bool dn]) := Lib.hid (TX0.out.grown hg (fun e => RX0.out.ne TX0.out (by decide) e.symm))
  have OX2 : Hid (OnlyS (Of b (.slice A m c)) w X2) := Lib.hid (OX0.out.grown hg (fun g hg2 => .inl (.inr hg2)))
  have HLi : Hid (v2.ownBlock = (Value.slice A m c).ownBlock ∨ ∃ g, w.heap.size ≤ g ∧ v2.ownBlock = some g) := Lib.hid (by
    rcases hL with h | ⟨g, h1, h2⟩
    · exact .inl h
    · exact .inr ⟨g, Nat.le_trans OX0.out.size h1, h2⟩)
  obtain ⟨Ax, cx, hvx, _⟩ := hOw.src
  rw [HLN.out] at hvx
  subst hvx
  have CX2 : Hid (X2.cell? ⟨b, 1, none⟩ = some (.int .i64 (k : Int))) := Lib.hid (TX2.out.cell 1)
  clear hOw hg hL RX0 TX0 BX0 OX0 CX0
  refine hK.out _ _ (CX2.out) (fun hHeld => ?_)
  clear hK K
  show wpAnyH _ _ _ _ _ _ _ (Act.put _ (some 32) _) _
  simp only [Act.put, List.setIfInBounds_toArray, List.set_cons_zero, List.set_cons_succ]
  refine wpAnyH_take (i := 14) (v := .pointer (some ⟨b, 0, none⟩)) rfl (by kernel_rfl) (by kernel_rfl) (by kernel_rfl) (fun _ _ _ h => h) (Or.inl ⟨by rfl, by intro w' h; go_simp⟩) hHeld ?_
  show wpAnyH _ _ _ _ _ _ _ (Act.put _ (some 33) _) _
  simp only [Act.put, List.setIfInBounds_toArray, List.set_cons_zero, List.set_cons_succ]
  refine wpAnyH_take (i := 15) (v := .pointer (some ⟨b, 0, none⟩)) rfl (by kernel_rfl) (by kernel_rfl) (by kernel_rfl) (fun _ _ _ h => h) (Or.inl ⟨by rfl, by intro w' h; go_simp⟩) hHeld ?_
  show wpAnyH _ _ _ _ _ _ _ (Act.put _ (some 34) _) _
  simp only [Act.put, List.setIfInBounds_toArray, List.set_cons_zero, List.set_cons_succ]
  refine wpAnyH_ready (rs := [16]) (by kernel_rfl) (by simp) ?_
  refine AllReadyH.cons rfl (fun K hK => ?_) AllReadyH.nil
  refine step_store1x rfl 27 (.tmp 34) (.tmp 32) rfl b 0 (.slice Ax N cx) rfl rfl (TX2.out.there 0 1 (by simp)) (by kernel_rfl) rfl rfl ?_
  have hOs : OnlyS (fun i => i = b) X2 (X2.setCell ⟨b, 0, none⟩ (.slice Ax N cx)) := (OnlyS.refl (fun i => i = b) X2).setCell (p := ⟨b, 0, none⟩) (.inl rfl) _
  have RX3 : Hid (Own (X2.setCell ⟨b, 0, none⟩ (.slice Ax N cx)) base (.slice Ax N cx) (l.take J ++ List.replicate z 0)) := Lib.hid (RX2.out.onlyS hOs (fun g hg e => RX2.out.ne TX2.out (by decide) (by rw [hg, e])))
  have TX3 : Hid (Blk (X2.setCell ⟨b, 0, none⟩ (.slice Ax N cx)) b 46 [.slice Ax N cx, .int .i64 (k : Int), .int .i64 st, .int .i64 fu, .bool dn]) := Lib.hid (TX2.out.set_ 0 (.slice Ax N cx))
  have OX3 : Hid (OnlyS (Of b (.slice A m c)) w (X2.setCell ⟨b, 0, none⟩ (.slice Ax N cx))) := Lib.hid (OX2.out.setCell (p := ⟨b, 0, none⟩) (.inl (.inl rfl)) _)
  clear hOs RX2 TX2 OX2 CX2
  generalize X2.setCell ⟨b, 0, none⟩ (.slice Ax N cx) = X3 at RX3 TX3 OX3 ⊢
  have CX3 : Hid (X3.cell? ⟨b, 1, none⟩ = some (.int .i64 (k : Int))) := Lib.hid (TX3.out.cell 1)
  refine hK.out _ _ (CX3.out) (fun hHeld => ?_)
  clear hK K
  show wpAnyH _ _ _ _ _ _ _ (Act.put _ none _) _
  simp only [Act.put]
  refine wpAnyH_done (by kernel_rfl) ?_ _
  clear hHeld
  have c0 : X3.cell? ⟨b, 0, none⟩ = _ := TX3.out.cell 0
  have f1 := TX3.out.frozen 1
  have f3 := TX3.out.frozen 3
  have f4 := TX3.out.frozen 4
  have c1 : X3.cell? ⟨b, 1, none⟩ = _ := TX3.out.cell 1
  have c3 : X3.cell? ⟨b, 3, none⟩ = _ := TX3.out.cell 3
  have c4 : X3.cell? ⟨b, 4, none⟩ = _ := TX3.out.cell 4
  simp only [List.getElem?_cons_succ, List.getElem?_cons_zero] at c0 c1 c3 c4
  go_wp2
  go_ret
  have hO3 : OnlyS (fun i => i = b) X3 (((X3.setCell ⟨b, 1, none⟩ (.int .i64 (N : Int))).setCell ⟨b, 3, none⟩ (.int .i64 (-1))).setCell ⟨b, 4, none⟩ (.bool false)) := (((OnlyS.refl (fun i => i = b) X3).setCell (p := ⟨b, 1, none⟩) (.inl rfl) _).setCell (p := ⟨b, 3, none⟩) (.inl rfl) _).setCell (p := ⟨b, 4, none⟩) (.inl rfl) _
  refine ⟨_, rfl, ?_, OX3.out.trans (hO3.mono (fun i hi => .inl hi)), HLi.out⟩
  rw [HCS.out]
  exact ⟨((TX3.out.set_ 1 (.int .i64 (N : Int))).set_ 3 (.int .i64 (-1))).set_ 4 (.bool false), RX3.out.onlyS hO3 (fun g hg e => RX3.out.ne TX3.out (by decide) (by rw [hg, e])), by show N ≤ _; rw [HLN.out]; exact Nat.le_refl _, by show List.length _ ≤ _; rw [HLN.out]; exact HNS.out, Int.le_refl _, by show (-1 : Int) ≤ _; decide⟩
end Go.Proofs.Ytjkpdfdcjhnjdaa
