/-
  slices.MinFunc over routes (65): the best one.
-/
import Derived.Test.YtnnimjaigciedaaPathQ
namespace Go.Proofs.Ytnnimjaigciedaa
open Go.RowKit
set_option linter.unusedVariables false

def RtGood (amt : Int) (r : Rt) : Prop := 0 < r.s.length ∧ (amtsE amt r.s).2.length = r.s.length
/-- A route in memory, its first amount at hand. -/
theorem rt_first {w : World} {base : Nat} {amt : Int} {r : Rt} (h : RtOk w base amt r) (hg : RtGood amt r) : ∃ b, r.aa = some ⟨b, 0, none⟩ ∧ w.cell? ⟨b, 0, none⟩ = some (.int .u64 (firstE amt r.tr)) := by
  obtain ⟨b, hb⟩ := own_some h.2.2 hg.1
  refine ⟨b, hb, ?_⟩
  have h3 := h.2.2
  rw [hb] at h3
  rw [h3.cellAt 0 (by have := hg.1; omega)]
  exact nums_at _ 0 _ (by rw [hg.2]; exact hg.1) rfl
theorem load89' (w : World) (g t : Nat) (a b d : Option Addr) (l m n c e f : Nat) (h : Blk w g t [.slice a l c, .slice b m e, .slice d n f]) : (loadVar 89 ⟨g, 0, none⟩).run Try.prog w = .ok (.agg #[.slice a l c, .slice b m e, .slice d n f]) w := load89 w g t a b d l m n c e f h
theorem result89 {fn : Func} {p : Tmp} (h : fn.results = #[.cell p 89]) (tmps : Array Value) (w : World) (g t : Nat) (a b d : Option Addr) (l m n c e f : Nat) (hp : tmps.getD p undef = .pointer (some ⟨g, 0, none⟩)) (hP : Blk w g t [.slice a l c, .slice b m e, .slice d n f]) :
    (results fn tmps).run Try.prog w = .ok (.agg #[.slice a l c, .slice b m e, .slice d n f]) w := by
  have hp2 : tmps[p]?.getD undef = .pointer (some ⟨g, 0, none⟩) := by simpa using hp
  simp only [results, h]
  simp [hp2, asAddr, load89 w g t a b d l m n c e f hP]
theorem bestF_step (amt : Int) (L : List Tr) (i : Nat) (t m B : Tr) (hi : L[i]? = some t) (h : bestF amt m (L.drop i) = B) : (lessE amt t m < 0 → bestF amt t (L.drop (i + 1)) = B) ∧ (¬ lessE amt t m < 0 → bestF amt m (L.drop (i + 1)) = B) := by
  have hlt : i < L.length := by
    rcases Nat.lt_or_ge i L.length with h1 | h1
    · exact h1
    · rw [List.getElem?_eq_none h1] at hi; cases hi
  have e : L[i] = t := by rw [List.getElem?_eq_getElem hlt] at hi; exact Option.some.inj hi
  rw [List.drop_eq_getElem_cons hlt, e] at h
  unfold bestF at h
  refine ⟨fun k => ?_, fun k => ?_⟩
  · rw [if_pos k] at h; exact h
  · rw [if_neg k] at h; exact h

set_option maxRecDepth 100000 in
set_option maxHeartbeats 8000000 in
theorem min_any (amt : Int) (acc : List Rt) (base g N c : Nat) (w : World) (hN : acc.length = N) (h0 : 0 < N) (hN2 : N ≤ 100) (hrow : w.ownsRow base 89 3 (.slice (some ⟨g, 0, none⟩) N c) N (rtflat acc)) (hok : ∀ r ∈ acc, RtOk w base amt r) (hgd : ∀ r ∈ acc, RtGood amt r) :
    Calls Try.prog 65 #[.slice (some ⟨g, 0, none⟩) N c, .func (.func 66) #[] #[]] w fun e w' => (∃ r, r ∈ acc ∧ e = .returned (.agg #[.slice r.na r.l.length r.nc, .slice r.ga r.s.length r.gc, .slice r.aa r.s.length r.ac]) ∧ r.tr = bestL amt (acc.map Rt.tr)) ∧ Below w.heap.size w w' := by
  obtain ⟨r0, hr0⟩ : ∃ r, acc[0]? = some r := ⟨_, List.getElem?_eq_getElem (by omega)⟩
  have HB0 : Hid (bestF amt r0.tr ((acc.map Rt.tr).drop 1) = bestL amt (acc.map Rt.tr)) := Lib.hid (by
    cases acc with
    | nil => simp at hr0
    | cons q t => simp at hr0; subst hr0; rfl)
  have hm0 : r0 ∈ acc := List.mem_of_getElem? hr0
  obtain ⟨k0, k1, k2⟩ := own_cells3 hrow hr0
  simp only [Nat.zero_mul, Nat.zero_add] at k0 k1 k2
  have BA : Below w.heap.size w (w.alloc (.cells #[.slice none 0 0, .slice none 0 0, .slice none 0 0] 89)) := (Below.refl _ _).alloc (Nat.le_refl _) _
  have ka0 := (BA.cell (p := ⟨g, 0, none⟩) (World.block_lt_of_cell? _ _ k0)).trans k0
  have ka1 := (BA.cell (p := ⟨g, 1, none⟩) (World.block_lt_of_cell? _ _ k1)).trans k1
  have ka2 := (BA.cell (p := ⟨g, 2, none⟩) (World.block_lt_of_cell? _ _ k2)).trans k2
  clear k0 k1 k2 BA
  obtain ⟨n0, hn0⟩ : ∃ n, r0.l.length = n := ⟨_, rfl⟩
  obtain ⟨m0, hm0'⟩ : ∃ n, r0.s.length = n := ⟨_, rfl⟩
  rw [hn0] at ka0
  rw [hm0'] at ka1 ka2
  have HC0 : Hid (r0.cells = [.slice r0.na n0 r0.nc, .slice r0.ga m0 r0.gc, .slice r0.aa m0 r0.ac]) := Lib.hid (by unfold Rt.cells; rw [hn0, hm0'])
  have HRW := Lib.hid hrow
  have HOK := Lib.hid hok
  have HGD := Lib.hid hgd
  have HNN := Lib.hid hN
  have HM0 := Lib.hid hm0
  have W0 : Hid (Below w.heap.size w ((w.alloc (.cells #[.slice none 0 0, .slice none 0 0, .slice none 0 0] 89)).alloc (.cells #[.slice r0.na n0 r0.nc, .slice r0.ga m0 r0.gc, .slice r0.aa m0 r0.ac] 89))) := Lib.hid (((Below.refl _ _).alloc (Nat.le_refl _) _).alloc (by simp) _)
  have M0 : Hid (Blk ((w.alloc (.cells #[.slice none 0 0, .slice none 0 0, .slice none 0 0] 89)).alloc (.cells #[.slice r0.na n0 r0.nc, .slice r0.ga m0 r0.gc, .slice r0.aa m0 r0.ac] 89)) (w.heap.size + 1) 89 [.slice r0.na n0 r0.nc, .slice r0.ga m0 r0.gc, .slice r0.aa m0 r0.ac]) := Lib.hid (Blk.mk_ (cs := [.slice r0.na n0 r0.nc, .slice r0.ga m0 r0.gc, .slice r0.aa m0 r0.ac]) (by simp))
  have R0 : Hid (Blk ((w.alloc (.cells #[.slice none 0 0, .slice none 0 0, .slice none 0 0] 89)).alloc (.cells #[.slice r0.na n0 r0.nc, .slice r0.ga m0 r0.gc, .slice r0.aa m0 r0.ac] 89)) w.heap.size 89 [.slice none 0 0, .slice none 0 0, .slice none 0 0]) := Lib.hid ((Blk.new w 89 [.slice none 0 0, .slice none 0 0, .slice none 0 0]).alloc _)
  have hNI : (0 : Int) < (N : Int) := by omega
  have hNJ : (N : Int) ≤ 100 := by omega
  have d1 : decide ((N : Int) < 1) = false := decide_eq_false (by omega)
  clear hrow hok hgd hN hr0 hm0 hn0 hm0'
  go_enter Try.func65, Try.ntmps65
  go_wp2_with fail
  clear ka0 ka1 ka2 d1
  generalize ((w.alloc (.cells #[.slice none 0 0, .slice none 0 0, .slice none 0 0] 89)).alloc (.cells #[.slice r0.na n0 r0.nc, .slice r0.ga m0 r0.gc, .slice r0.aa m0 r0.ac] 89)) = V0 at W0 M0 R0 ⊢
  have hgm : w.heap.size ≤ w.heap.size + 1 := by omega
  have hgr : w.heap.size ≠ w.heap.size + 1 := by omega
  obtain ⟨gm, hgm2⟩ : ∃ g, w.heap.size + 1 = g := ⟨_, rfl⟩
  rw [hgm2] at M0 hgm hgr ⊢
  clear hgm2
  have M1 : Hid (Blk V0 gm 89 r0.cells) := Lib.hid (by rw [HC0.out]; exact M0.out)
  clear M0 HC0
  go_loopw [6] (fun s6 wd => ∃ (i : Nat) (r : Rt), i ≤ N ∧ s6 = .int .i64 (i : Int) ∧ Hid (r ∈ acc) ∧ Hid (bestF amt r.tr ((acc.map Rt.tr).drop i) = bestL amt (acc.map Rt.tr)) ∧ Hid (Blk wd gm 89 r.cells) ∧ Hid (Blk wd w.heap.size 89 [.slice none 0 0, .slice none 0 0, .slice none 0 0]) ∧ Hid (Below w.heap.size w wd)) (fun j _ => N - (intOf j).toNat)
  case atStart => exact ⟨1, r0, by omega, rfl, HM0, HB0, M1, R0, W0⟩
  case round =>
    clear M1 R0 W0 HB0 HM0
    obtain ⟨i, r, hi, rfl, HMR, HBR, Mr, Rr, Br⟩ := hrel
    obtain ⟨wj, hwj⟩ : ∃ wj : World, wr = wj := ⟨_, rfl⟩
    rw [hwj] at Mr Rr Br ⊢
    clear hwj
    obtain ⟨b2, hb2, hy⟩ := rt_first (HOK.out r HMR.out) (HGD.out r HMR.out)
    have hk2 := (HGD.out r HMR.out).1
    obtain ⟨na2, nc2, ga2, gc2, aa2, ac2, l2, s2⟩ := r
    simp only at hb2 hk2
    subst hb2
    obtain ⟨n2, hn2⟩ : ∃ n, l2.length = n := ⟨_, rfl⟩
    obtain ⟨m2, hm2⟩ : ∃ n, s2.length = n := ⟨_, rfl⟩
    rw [hm2] at hk2
    have HC2 : Hid (Rt.cells ⟨na2, nc2, ga2, gc2, some ⟨b2, 0, none⟩, ac2, l2, s2⟩ = [.slice na2 n2 nc2, .slice ga2 m2 gc2, .slice (some ⟨b2, 0, none⟩) m2 ac2]) := Lib.hid (by unfold Rt.cells; rw [← hn2, ← hm2])
    rw [HC2.out] at Mr
    obtain ⟨y, hyy⟩ : ∃ y, firstE amt (Rt.tr ⟨na2, nc2, ga2, gc2, some ⟨b2, 0, none⟩, ac2, l2, s2⟩) = y := ⟨_, rfl⟩
    rw [hyy] at hy
    have HYY := Lib.hid hyy
    have HN2 := Lib.hid hn2
    have HM2 := Lib.hid hm2
    clear hyy hn2 hm2
    by_cases hlt : i < N
    · have hiI : (i : Int) < (N : Int) := by omega
      obtain ⟨ri, hri⟩ : ∃ r, acc[i]? = some r := ⟨_, List.getElem?_eq_getElem (by rw [HNN.out]; exact hlt)⟩
      have hmi : ri ∈ acc := List.mem_of_getElem? hri
      obtain ⟨k0, k1, k2⟩ := own_cells3 HRW.out hri
      obtain ⟨b1, hb1, hx⟩ := rt_first (HOK.out ri hmi) (HGD.out ri hmi)
      have hk1 := (HGD.out ri hmi).1
      have HST := Lib.hid (bestF_step amt (acc.map Rt.tr) i ri.tr _ _ (by rw [List.getElem?_map, hri]; rfl) HBR.out)
      have HMI := Lib.hid hmi
      obtain ⟨na, nc, ga, gc, aa, ac, l1, s1⟩ := ri
      simp only at hb1 hk1 k0 k1 k2
      subst hb1
      obtain ⟨n1, hn1⟩ : ∃ n, l1.length = n := ⟨_, rfl⟩
      obtain ⟨m1, hm1⟩ : ∃ n, s1.length = n := ⟨_, rfl⟩
      rw [hn1] at k0
      rw [hm1] at k1 k2 hk1
      have HC1 : Hid (Rt.cells ⟨na, nc, ga, gc, some ⟨b1, 0, none⟩, ac, l1, s1⟩ = [.slice na n1 nc, .slice ga m1 gc, .slice (some ⟨b1, 0, none⟩) m1 ac]) := Lib.hid (by unfold Rt.cells; rw [← hn1, ← hm1])
      obtain ⟨x, hxx⟩ : ∃ x, firstE amt (Rt.tr ⟨na, nc, ga, gc, some ⟨b1, 0, none⟩, ac, l1, s1⟩) = x := ⟨_, rfl⟩
      rw [hxx] at hx
      obtain ⟨cv, hcv⟩ : ∃ cv, orE (cmpE x y) (cmpE (m1 : Int) (m2 : Int)) = cv := ⟨_, rfl⟩
      have HLE : Hid (lessE amt (Rt.tr ⟨na, nc, ga, gc, some ⟨b1, 0, none⟩, ac, l1, s1⟩) (Rt.tr ⟨na2, nc2, ga2, gc2, some ⟨b2, 0, none⟩, ac2, l2, s2⟩) = cv) := Lib.hid (by
        unfold lessE
        rw [hxx, HYY.out]
        simp only [Rt.tr]
        rw [hm1, HM2.out, hcv])
      have HCV := Lib.hid hcv
      have MV := Mr
      have RV := Rr
      have BV := Br
      have CV := Lib.hid ((Br.out.cell (p := ⟨b1, 0, none⟩) (World.block_lt_of_cell? _ _ hx)).trans hx)
      have DV := Lib.hid ((Br.out.cell (p := ⟨b2, 0, none⟩) (World.block_lt_of_cell? _ _ hy)).trans hy)
      have E0V := Lib.hid ((Br.out.cell (p := ⟨g, i * 3, none⟩) (World.block_lt_of_cell? _ _ k0)).trans k0)
      have E1V := Lib.hid ((Br.out.cell (p := ⟨g, i * 3 + 1, none⟩) (World.block_lt_of_cell? _ _ k1)).trans k1)
      have E2V := Lib.hid ((Br.out.cell (p := ⟨g, i * 3 + 2, none⟩) (World.block_lt_of_cell? _ _ k2)).trans k2)
      clear Mr Rr Br hx hy k0 k1 k2 hri hmi hxx hcv hn1 hm1 HBR
      obtain ⟨V, hV⟩ : ∃ V : World, wj = V := ⟨_, rfl⟩
      rw [hV] at MV RV BV CV DV E0V E1V E2V ⊢
      clear hV
      go_upto_region 7 with fail
      have hBz : Below V.heap.size V V.drew := below_drewN (Below.refl _ _) 1
      have MX0 : Hid (Blk V.drew gm 89 [.slice na2 n2 nc2, .slice ga2 m2 gc2, .slice (some ⟨b2, 0, none⟩) m2 ac2]) := Lib.hid (MV.out.below hBz MV.out.lt)
      have E0X0 : Hid (V.drew.cell? ⟨g, i * 3, none⟩ = some (.slice na n1 nc)) := Lib.hid ((hBz.cell (p := ⟨g, i * 3, none⟩) (World.block_lt_of_cell? _ _ E0V.out)).trans E0V.out)
      have E1X0 : Hid (V.drew.cell? ⟨g, i * 3 + 1, none⟩ = some (.slice ga m1 gc)) := Lib.hid ((hBz.cell (p := ⟨g, i * 3 + 1, none⟩) (World.block_lt_of_cell? _ _ E1V.out)).trans E1V.out)
      have E2X0 : Hid (V.drew.cell? ⟨g, i * 3 + 2, none⟩ = some (.slice (some ⟨b1, 0, none⟩) m1 ac)) := Lib.hid ((hBz.cell (p := ⟨g, i * 3 + 2, none⟩) (World.block_lt_of_cell? _ _ E2V.out)).trans E2V.out)
      have CX0 : Hid (V.drew.cell? ⟨b1, 0, none⟩ = some (.int .u64 x)) := Lib.hid ((hBz.cell (p := ⟨b1, 0, none⟩) (World.block_lt_of_cell? _ _ CV.out)).trans CV.out)
      have DX0 : Hid (V.drew.cell? ⟨b2, 0, none⟩ = some (.int .u64 y)) := Lib.hid ((hBz.cell (p := ⟨b2, 0, none⟩) (World.block_lt_of_cell? _ _ DV.out)).trans DV.out)
      have BX0 : Hid (Below w.heap.size w V.drew) := Lib.hid (BV.out.trans (hBz.mono BV.out.size))
      have RX0 : Hid (Blk V.drew w.heap.size 89 [.slice none 0 0, .slice none 0 0, .slice none 0 0]) := Lib.hid (RV.out.below hBz RV.out.lt)
      clear hBz
      refine wp_region_held_drew (S := fun w' => Blk w' gm 89 [.slice na2 n2 nc2, .slice ga2 m2 gc2, .slice (some ⟨b2, 0, none⟩) m2 ac2] ∧ w'.cell? ⟨g, i * 3, none⟩ = some (.slice na n1 nc) ∧ w'.cell? ⟨g, i * 3 + 1, none⟩ = some (.slice ga m1 gc) ∧ w'.cell? ⟨g, i * 3 + 2, none⟩ = some (.slice (some ⟨b1, 0, none⟩) m1 ac)) (by kernel_rfl) (⟨MX0.out, E0X0.out, E1X0.out, E2X0.out⟩) (fun hHeld => ?_)
      generalize V.drew = X0 at hHeld MX0 E0X0 E1X0 E2X0 CX0 DX0 BX0 RX0 ⊢
      refine wpAnyH_take (i := 0) (v := .func (.func 66) #[] #[]) rfl (by kernel_rfl) (by kernel_rfl) (by kernel_rfl) (fun _ _ _ h => h) (Or.inl ⟨by rfl, fun w _ => by rfl⟩) hHeld ?_
      show wpAnyH _ _ _ _ _ _ _ (Act.put _ (some 20) _) _
      simp only [Act.put, List.setIfInBounds_toArray, List.set_cons_zero, List.set_cons_succ]
      refine wpAnyH_take (i := 1) (v := .slice (some ⟨g, 0, none⟩) N c) rfl (by kernel_rfl) (by kernel_rfl) (by kernel_rfl) (fun _ _ _ h => h) (Or.inl ⟨by rfl, fun w _ => by rfl⟩) hHeld ?_
      show wpAnyH _ _ _ _ _ _ _ (Act.put _ (some 21) _) _
      simp only [Act.put, List.setIfInBounds_toArray, List.set_cons_zero, List.set_cons_succ]
      refine wpAnyH_take (i := 2) (v := .int .i64 (i : Int)) rfl (by kernel_rfl) (by kernel_rfl) (by kernel_rfl) (fun _ _ _ h => h) (Or.inl ⟨by rfl, fun w _ => by rfl⟩) hHeld ?_
      show wpAnyH _ _ _ _ _ _ _ (Act.put _ (some 22) _) _
      simp only [Act.put, List.setIfInBounds_toArray, List.set_cons_zero, List.set_cons_succ]
      refine wpAnyH_take (i := 3) (v := .pointer (some ⟨g, i * 3, none⟩)) rfl (by kernel_rfl) (by kernel_rfl) (by kernel_rfl) (fun _ _ _ h => h) (Or.inl ⟨by rfl, by intro w' h; go_simp⟩) hHeld ?_
      show wpAnyH _ _ _ _ _ _ _ (Act.put _ (some 23) _) _
      simp only [Act.put, List.setIfInBounds_toArray, List.set_cons_zero, List.set_cons_succ]
      refine wpAnyH_take (i := 4) (v := .agg #[.slice na n1 nc, .slice ga m1 gc, .slice (some ⟨b1, 0, none⟩) m1 ac]) rfl (by kernel_rfl) (by kernel_rfl) (by kernel_rfl) (fun _ _ _ h => h) (Or.inl ⟨by rfl, by intro w' h; have q0 := h.2.1; have q1 := h.2.2.1; have q2 := h.2.2.2; go_simp⟩) hHeld ?_
      show wpAnyH _ _ _ _ _ _ _ (Act.put _ (some 24) _) _
      simp only [Act.put, List.setIfInBounds_toArray, List.set_cons_zero, List.set_cons_succ]
      refine wpAnyH_take (i := 5) (v := .agg #[.slice na2 n2 nc2, .slice ga2 m2 gc2, .slice (some ⟨b2, 0, none⟩) m2 ac2]) rfl (by kernel_rfl) (by kernel_rfl) (by kernel_rfl) (fun _ _ _ h => h) (Or.inl ⟨by rfl, by intro w' h; have k0 := Blk.cell h.1 0; have k1 := Blk.cell h.1 1; have k2 := Blk.cell h.1 2; simp only [List.getElem?_cons_zero, List.getElem?_cons_succ] at k0 k1 k2; go_simp⟩) hHeld ?_
      show wpAnyH _ _ _ _ _ _ _ (Act.put _ (some 25) _) _
      simp only [Act.put, List.setIfInBounds_toArray, List.set_cons_zero, List.set_cons_succ]
      refine wpAnyH_ready (rs := [6]) (by kernel_rfl) (by simp) ?_
      refine AllReadyH.cons rfl (fun K hK => ?_) AllReadyH.nil
      refine step_callv rfl 20 66 #[.tmp 24, .tmp 25] #[89, 89] rfl rfl #[.agg #[.slice na n1 nc, .slice ga m1 gc, .slice (some ⟨b1, 0, none⟩) m1 ac], .agg #[.slice na2 n2 nc2, .slice ga2 m2 gc2, .slice (some ⟨b2, 0, none⟩) m2 ac2]] (by simp [Act.eval]) (by go_simp) (less_any na ga na2 ga2 n1 nc m1 gc m1 ac n2 nc2 m2 gc2 m2 ac2 b1 0 b2 0 x y X0 CX0.out DX0.out hk1 hk2) ?_
      rintro e X1 ⟨rfl, hB⟩
      rw [HCV.out]
      refine ⟨_, rfl, ?_⟩
      have MX1 : Hid (Blk X1 gm 89 [.slice na2 n2 nc2, .slice ga2 m2 gc2, .slice (some ⟨b2, 0, none⟩) m2 ac2]) := Lib.hid (MX0.out.below hB MX0.out.lt)
      have E0X1 : Hid (X1.cell? ⟨g, i * 3, none⟩ = some (.slice na n1 nc)) := Lib.hid ((hB.cell (p := ⟨g, i * 3, none⟩) (World.block_lt_of_cell? _ _ E0X0.out)).trans E0X0.out)
      have E1X1 : Hid (X1.cell? ⟨g, i * 3 + 1, none⟩ = some (.slice ga m1 gc)) := Lib.hid ((hB.cell (p := ⟨g, i * 3 + 1, none⟩) (World.block_lt_of_cell? _ _ E1X0.out)).trans E1X0.out)
      have E2X1 : Hid (X1.cell? ⟨g, i * 3 + 2, none⟩ = some (.slice (some ⟨b1, 0, none⟩) m1 ac)) := Lib.hid ((hB.cell (p := ⟨g, i * 3 + 2, none⟩) (World.block_lt_of_cell? _ _ E2X0.out)).trans E2X0.out)
      have CX1 : Hid (X1.cell? ⟨b1, 0, none⟩ = some (.int .u64 x)) := Lib.hid ((hB.cell (p := ⟨b1, 0, none⟩) (World.block_lt_of_cell? _ _ CX0.out)).trans CX0.out)
      have DX1 : Hid (X1.cell? ⟨b2, 0, none⟩ = some (.int .u64 y)) := Lib.hid ((hB.cell (p := ⟨b2, 0, none⟩) (World.block_lt_of_cell? _ _ DX0.out)).trans DX0.out)
      have BX1 : Hid (Below w.heap.size w X1) := Lib.hid (BX0.out.trans (hB.mono BX0.out.size))
      have RX1 : Hid (Blk X1 w.heap.size 89 [.slice none 0 0, .slice none 0 0, .slice none 0 0]) := Lib.hid (RX0.out.below hB RX0.out.lt)
      clear MX0 E0X0 E1X0 E2X0 CX0 DX0 BX0 RX0 hB
      refine hK.out _ _ (⟨MX1.out, E0X1.out, E1X1.out, E2X1.out⟩) (fun hHeld => ?_)
      clear hK K
      show wpAnyH _ _ _ _ _ _ _ (Act.put _ (some 26) _) _
      simp only [Act.put, List.setIfInBounds_toArray, List.set_cons_zero, List.set_cons_succ]
      refine wpAnyH_take (i := 7) (v := .bool (decide (cv < 0))) rfl (by kernel_rfl) (by kernel_rfl) (by kernel_rfl) (fun _ _ _ h => h) (Or.inl ⟨by rfl, by intro w' h; go_simp⟩) hHeld ?_
      show wpAnyH _ _ _ _ _ _ _ (Act.put _ (some 27) _) _
      simp only [Act.put, List.setIfInBounds_toArray, List.set_cons_zero, List.set_cons_succ]
      refine wpAnyH_done (by kernel_rfl) ?_ _
      clear hHeld
      by_cases hcv : cv < 0
      · rw [show decide (cv < 0) = true from decide_eq_true hcv]
        have HB2 := Lib.hid (HST.out.1 (by rw [HLE.out]; exact hcv))
        have e0 := E0X1.out
        have e1 := E1X1.out
        have e2 := E2X1.out
        have r0 := MX1.out.cell 0
        have r1 := MX1.out.cell 1
        have r2 := MX1.out.cell 2
        simp only [List.getElem?_cons_zero, List.getElem?_cons_succ] at r0 r1 r2
        have f0 := MX1.out.frozen 0
        have f1 := MX1.out.frozen 1
        have f2 := MX1.out.frozen 2
        have MN := Lib.hid (Blk.set_ (Blk.set_ (Blk.set_ MX1.out 0 (.slice na n1 nc)) 1 (.slice ga m1 gc)) 2 (.slice (some ⟨b1, 0, none⟩) m1 ac))
        have RN := Lib.hid (((RX1.out.far (p := ⟨gm, 0, none⟩) (by first | exact hgr | exact hgr.symm) (.slice na n1 nc)).far (p := ⟨gm, 1, none⟩) (by first | exact hgr | exact hgr.symm) (.slice ga m1 gc)).far (p := ⟨gm, 2, none⟩) (by first | exact hgr | exact hgr.symm) (.slice (some ⟨b1, 0, none⟩) m1 ac))
        have BN := Lib.hid (((BX1.out.setCell (p := ⟨gm, 0, none⟩) hgm (.slice na n1 nc)).setCell (p := ⟨gm, 1, none⟩) hgm (.slice ga m1 gc)).setCell (p := ⟨gm, 2, none⟩) hgm (.slice (some ⟨b1, 0, none⟩) m1 ac))
        clear MX1 RX1 BX1 CX1 DX1 E0X1 E1X1 E2X1 HST HLE HCV hcv
        go_wp2
        go_roundw
        case rel => exact ⟨i + 1, _, by omega, by go_num, HMI, HB2, Lib.hid (by rw [HC1.out]; exact MN.out), RN, BN⟩
        case measure => simp [intOf]; omega
      · rw [show decide (cv < 0) = false from decide_eq_false hcv]
        have HB2 := Lib.hid (HST.out.2 (by rw [HLE.out]; exact hcv))
        have MN := MX1
        clear MX1 CX1 DX1 E0X1 E1X1 E2X1 HST HLE HCV hcv
        go_wp2
        go_roundw
        case rel => exact ⟨i + 1, _, by omega, by go_num, HMR, HB2, Lib.hid (by rw [HC2.out]; exact MN.out), RX1, BX1⟩
        case measure => simp [intOf]; omega
    · obtain rfl : N = i := by omega
      have HBF : Hid (Rt.tr ⟨na2, nc2, ga2, gc2, some ⟨b2, 0, none⟩, ac2, l2, s2⟩ = bestL amt (acc.map Rt.tr)) := Lib.hid (by have h9 := HBR.out; rw [List.drop_eq_nil_of_le (by rw [List.length_map, HNN.out]; exact Nat.le_refl _)] at h9; exact h9)
      clear HBR hy
      have m0 := Mr.out.cell 0
      have m1 := Mr.out.cell 1
      have m2' := Mr.out.cell 2
      have r0 := Rr.out.cell 0
      have r1 := Rr.out.cell 1
      have r2 := Rr.out.cell 2
      simp only [List.getElem?_cons_zero, List.getElem?_cons_succ] at m0 m1 m2' r0 r1 r2
      have f0 := Rr.out.frozen 0
      have f1 := Rr.out.frozen 1
      have f2 := Rr.out.frozen 2
      have RN := Lib.hid (Blk.set_ (Blk.set_ (Blk.set_ Rr.out 0 (.slice na2 n2 nc2)) 1 (.slice ga2 m2 gc2)) 2 (.slice (some ⟨b2, 0, none⟩) m2 ac2))
      have BN := Lib.hid (((Br.out.setCell (p := ⟨w.heap.size, 0, none⟩) (Nat.le_refl _) (.slice na2 n2 nc2)).setCell (p := ⟨w.heap.size, 1, none⟩) (Nat.le_refl _) (.slice ga2 m2 gc2)).setCell (p := ⟨w.heap.size, 2, none⟩) (Nat.le_refl _) (.slice (some ⟨b2, 0, none⟩) m2 ac2))
      clear Mr Rr Br
      go_wp2
      exact bodyPost_ret (result89 Try.results65 _ _ w.heap.size 89 na2 ga2 (some ⟨b2, 0, none⟩) n2 m2 m2 nc2 gc2 ac2 rfl RN.out) rfl ⟨⟨_, HMR.out, by simp only [HN2.out, HM2.out], HBF.out⟩, BN.out⟩
end Go.Proofs.Ytnnimjaigciedaa
