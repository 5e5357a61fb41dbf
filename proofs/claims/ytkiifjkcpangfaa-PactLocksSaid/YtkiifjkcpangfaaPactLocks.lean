/-
  tollhouselaw12.PactLocks returns true for every input: a payment that is laid and taken out again leaves all as it was but the round; one that is done has moved just its amount; what is handed in isn't written.
-/
import Derived.Test.YtkiifjkcpangfaaPacX
namespace Go.Proofs.Ytkiifjkcpangfaa.pactLocks
open Go.ChangeShapes Go.WideShapes Go.ChangeAt Go.RowKit Go.Deep
set_option linter.unusedVariables false

def cL (c : Cnd) : Cnd := ⟨c.id, 0, c.amt, c.h, c.ex⟩
theorem cL_ok {c : Cnd} (h : c.Ok) : (cL c).Ok := ⟨h.id, h.amt, h.h⟩
def S0 : St := ⟨1, 0, 0, 0, 0, 0, []⟩
def S1 (c : Cnd) : St := ⟨1, 1, 0, 0, 0, 0, [cL c]⟩
def S2 (d : Bool) (c : Cnd) : St := ⟨1, 2, if d then c.amt else 0, 0, 0, 0, []⟩
theorem w_0 : Word 0 := ⟨by decide, by decide⟩
theorem w_1 : Word 1 := ⟨by decide, by decide⟩
theorem S0_ok : S0.Ok := ⟨w_0, w_0, w_0, w_0, w_0⟩
theorem S1_ok (c : Cnd) : (S1 c).Ok := ⟨w_1, w_0, w_0, w_0, w_0⟩
theorem S1_cok {c : Cnd} (h : c.Ok) : ∀ d ∈ (S1 c).cs, d.Ok := fun d hd => by simp [S1] at hd; rw [hd]; exact cL_ok h
theorem first_S {p0 p1 : Int} {c : Cnd} (h : nextE S0 p0 p1 0 2 0 (cL c) 0 = 0) : nextS S0 p0 p1 0 2 0 (cL c) 0 = S1 c ∧ soundE (S1 c) p0 p1 = 0 := by
  have hd : doS S0.nxt 0 2 0 (cL c) 0 = S1 c := by simp [doS, S0, S1, St.nxt, St.add]
  obtain ⟨_, _, _, _, h5, h6⟩ := nextE_zero h
  rw [hd] at h5 h6
  exact ⟨h5, h6⟩
theorem heldS1 {c : Cnd} (h : c.Ok) : heldV 0 (S1 c).cs = c.amt ∧ heldE 0 (S1 c).cs = 0 := by
  have := h.amt.2
  simp [heldV, heldE, heldGo, S1, cL]
  rw [addE0 (by omega), addV0 (by omega)]
  simp
theorem second (d : Bool) {p0 p1 : Int} {c : Cnd} (hok : c.Ok) (hp0 : Word p0) (hp1 : Word p1) (h : soundE (S1 c) p0 p1 = 0) :
    (nextE (S1 c) p0 p1 1 (if d then 3 else 4) 0 cnd0 c.id = 0 ∧ nextS (S1 c) p0 p1 1 (if d then 3 else 4) 0 cnd0 c.id = S2 d c) ∨ (d = true ∧ nextE (S1 c) p0 p1 1 (if d then 3 else 4) 0 cnd0 c.id = 11) := by
  have h2 : ¬ (S1 c).rd = 200 := by show ¬ (1 : Int) = 200; decide
  have h3 : (1 : Int) = turnF ((S1 c).rd + 1) := by show (1 : Int) = turnF 2; decide
  have hf : findV c.id (S1 c).nxt.cs = 0 := by simp [findV, findGo, S1, St.nxt, cL]
  have hat : (S1 c).nxt.at_ c.id = cL c := by unfold St.at_; rw [hf]; rfl
  have hls : (S1 c).nxt.less c.id = ⟨1, 2, 0, 0, 0, 0, []⟩ := by unfold St.less; rw [hf]; rfl
  obtain ⟨_, _, _, f0, f1⟩ := sound_parts h
  have ha := hok.amt
  unfold Word at ha hp0 hp1
  have hfr : c.amt ≤ p0 := by
    rw [freeF_0, free2_iff] at f0
    have hv := (heldS1 hok).1
    unfold heldV at hv
    rw [hv] at f0
    have := f0.2.2.2.2
    simp only [S1] at this
    omega
  cases d
  · left
    have hE : doE (S1 c).nxt p0 p1 1 4 0 cnd0 c.id = 0 := by simp [doE, hf]
    have hS : doS (S1 c).nxt 1 4 0 cnd0 c.id = S2 false c := by simp [doS, hls, S2]
    have hs : soundE (S2 false c) p0 p1 = 0 := by
      rw [soundE_iff, freeF_0, freeF_1, free2_iff, free2_iff]
      refine ⟨by show (2 : Int) ≤ 200; decide, by show 0 ≤ 8; decide, rfl, ⟨rfl, ?_, ?_, ?_, ?_⟩, ⟨rfl, ?_, ?_, ?_, ?_⟩⟩
      all_goals simp only [S2, heldGo]
      all_goals simp
      all_goals omega
    have hn : nextE (S1 c) p0 p1 1 4 0 cnd0 c.id = 0 := by rw [nextE_5 h h2 h3 hE, hS, hs]
    exact ⟨hn, by simp only [Bool.false_eq_true, if_false]; unfold nextS; rw [if_pos hn, hS]⟩
  · have hE : doE (S1 c).nxt p0 p1 1 3 0 cnd0 c.id = 0 := by
      have hm : (S1 c).nxt.mv (cL c).side = 0 := rfl
      have ha2 : (cL c).amt = c.amt := rfl
      simp [doE, hf, hat, hm, ha2]
      rw [spR_ok (by omega)]
    have hS : doS (S1 c).nxt 1 3 0 cnd0 c.id = S2 true c := by simp [doS, hat, hls, S2, cL, St.pay]
    have hs : soundE (S2 true c) p0 p1 = 0 ∨ soundE (S2 true c) p0 p1 = 11 := by
      have g0 : (freeF (S2 true c) p0 p1 0).2 = 0 := by
        rw [freeF_0, free2_iff]
        refine ⟨rfl, ?_, ?_, ?_, ?_⟩
        all_goals simp only [S2, heldGo]
        all_goals simp
        all_goals omega
      have g1 : (freeF (S2 true c) p0 p1 1).2 = 0 ∨ (freeF (S2 true c) p0 p1 1).2 = 11 := by
        rw [freeF_1]
        by_cases hov : 18446744073709551616 ≤ p1 + c.amt
        · right
          rw [free2_over (h := heldGo 1 0 (S2 true c).cs) rfl (by simpa [S2] using hov)]
        · left
          rw [free2_iff]
          refine ⟨rfl, ?_, ?_, ?_, ?_⟩
          all_goals simp only [S2, heldGo]
          all_goals simp
          all_goals omega
      have e : soundE (S2 true c) p0 p1 = (freeF (S2 true c) p0 p1 1).2 := by
        unfold soundE
        rw [if_neg (by simp [S2]), if_neg (by simp [S2, soundGo]), if_neg (by simpa using g0)]
      rw [e]; exact g1
    have hn : nextE (S1 c) p0 p1 1 3 0 cnd0 c.id = soundE (S2 true c) p0 p1 := by rw [nextE_5 h h2 h3 hE, hS]
    rcases hs with hs | hs
    · left
      rw [hs] at hn
      exact ⟨hn, by simp only [if_true]; unfold nextS; rw [if_pos hn, hS]⟩
    · right
      exact ⟨rfl, by rw [← hs]; exact hn⟩

set_option maxRecDepth 100000 in
set_option maxHeartbeats 4000000 in
theorem walk (p0 p1 k amt id : Int) (c : Cnd) (d : Bool) (w : World) (hp0 : Word p0) (hp1 : Word p1) (hok : c.Ok) (hamt : Word amt) (hid : Word id) :
    Calls Try.prog 8 #[.agg #[.int .u64 p0, .int .u64 p1], .agg (ocells k amt c id).toArray, .bool d] w fun e w' => e = .returned (.bool true) ∧ Below w.heap.size w w' := by
  have HOK := Lib.hid hok
  have BA : Hid (Below w.heap.size w ((w.alloc (.cells #[.int .u64 p0, .int .u64 p1] 24)).alloc (.cells (ocells k amt c id).toArray 55))) := Lib.hid (((Below.refl _ _).alloc (Nat.le_refl _) _).alloc (by simp) _)
  have PA : Hid (Blk ((w.alloc (.cells #[.int .u64 p0, .int .u64 p1] 24)).alloc (.cells (ocells k amt c id).toArray 55)) w.heap.size 24 [.int .u64 p0, .int .u64 p1]) := Lib.hid ((Blk.mk_ rfl).alloc _)
  have KA : Hid (Blk ((w.alloc (.cells #[.int .u64 p0, .int .u64 p1] 24)).alloc (.cells (ocells k amt c id).toArray 55)) (w.heap.size + 1) 55 (ocells k amt c id)) := Lib.hid (Blk.mk_ (by simp))
  have HZK : Hid ((Try.prog.info? 55).map (·.size) = some (ocells k amt (cL c) id).length) := Lib.hid (by rw [ocells_length k amt (cL c) id (cL_ok hok)]; exact info55)
  clear hok
  go_enter Try.func8, Try.ntmps8
  go_upto_region 1 with fail
  generalize ((w.alloc (.cells #[.int .u64 p0, .int .u64 p1] 24)).alloc (.cells (ocells k amt c id).toArray 55)) = A at BA PA KA ⊢
  obtain ⟨gk, hgk⟩ : ∃ q, w.heap.size + 1 = q := ⟨_, rfl⟩
  obtain ⟨gp, hgp⟩ : ∃ q, w.heap.size = q := ⟨_, rfl⟩
  have HG : Hid (w.heap.size ≤ gp ∧ gp < gk) := Lib.hid ⟨by omega, by omega⟩
  rw [hgk] at KA ⊢
  rw [hgp] at PA ⊢
  clear hgk hgp
  have k3 := KA.out.cell 3
  rw [ocells_3] at k3
  have f3 := KA.out.frozen 3
  go_upto_region 2 with fail
  clear k3 f3
  have BC : Hid (Below w.heap.size w (A.setCell ⟨gk, 3, none⟩ (.int .i64 0))) := Lib.hid (BA.out.setCell (p := ⟨gk, 3, none⟩) (show w.heap.size ≤ gk by have := HG.out; omega) _)
  have PC : Hid (Blk (A.setCell ⟨gk, 3, none⟩ (.int .i64 0)) gp 24 [.int .u64 p0, .int .u64 p1]) := Lib.hid (PA.out.far (p := ⟨gk, 3, none⟩) (show gp ≠ gk by have := HG.out; omega) _)
  have KK : Hid (Blk (A.setCell ⟨gk, 3, none⟩ (.int .i64 0)) gk 55 (ocells k amt (cL c) id)) := Lib.hid (KA.out.set_ 3 (.int .i64 0))
  have KC := KK
  clear BA PA KA KK
  generalize A.setCell ⟨gk, 3, none⟩ (.int .i64 0) = C at BC PC KC ⊢
  obtain ⟨E1, hE1⟩ : ∃ q, nextE S0 p0 p1 0 2 0 (cL c) 0 = q := ⟨_, rfl⟩
  obtain ⟨SS, hSS⟩ : ∃ q, nextS S0 p0 p1 0 2 0 (cL c) 0 = q := ⟨_, rfl⟩
  have HNX : Hid (∀ X, Calls Try.prog 24 #[.agg #[.int .u32 1, .int .u64 0, .int .u64 0, .int .u64 0, .int .u64 0, .int .u64 0, .slice none 0 0], .agg #[.int .u64 p0, .int .u64 p1], .int .i64 0, .agg (ocells 2 0 (cL c) 0).toArray] X (NextPost SS E1 X)) := Lib.hid (fun X => by
    have := next_any 0 0 S0 none p0 p1 0 2 0 0 (cL c) X (CRow.nil _ _) (fun _ => ⟨rfl, rfl⟩) rfl (by decide) (cL_ok HOK.out) w_0 hp0 hp1 S0_ok
    rwa [hE1, hSS] at this)
  have HE1 := Lib.hid hE1
  have HSS := Lib.hid hSS
  have HSO : Hid (∀ x ∈ SS.cs, x.Ok) := Lib.hid (by
    rw [← hSS]; unfold nextS
    split
    · exact doS_cok S0.nxt (by intro x hx; cases hx) _ _ _ _ (cL_ok HOK.out) _
    · intro x hx; cases hx)
  clear hE1 hSS
  go_cut [7, 8] (fun s7 s8 wc => ∃ gN aN nN cN, s7 = .pointer (some ⟨gN, 0, none⟩) ∧ s8 = .int .i64 E1 ∧ Hid (Below w.heap.size w wc) ∧ Hid (Blk wc gp 24 [.int .u64 p0, .int .u64 p1]) ∧ Hid (Blk wc gk 55 (ocells k amt (cL c) id)) ∧ Hid (StAt wc w.heap.size gN SS aN nN cN) ∧ Hid (w.heap.size ≤ gN ∧ gp < gN ∧ gk < gN))
  case first =>
    have hBz : Below C.heap.size C C.drew := below_drewN (Below.refl _ _) 1
    have BX0 : Hid (Below w.heap.size w C.drew) := Lib.hid (BC.out.trans (hBz.mono BC.out.size))
    have PX0 : Hid (Blk C.drew gp 24 [.int .u64 p0, .int .u64 p1]) := Lib.hid (PC.out.below hBz PC.out.lt)
    have KX0 : Hid (Blk C.drew gk 55 (ocells k amt (cL c) id)) := Lib.hid (KC.out.below hBz KC.out.lt)
    clear hBz
    refine wp_region_held_drew (S := fun w' => Blk w' gp 24 [.int .u64 p0, .int .u64 p1] ∧ Blk w' gk 55 (ocells k amt (cL c) id)) (by kernel_rfl) (⟨PX0.out, KX0.out⟩) (fun hHeld => ?_)
    generalize C.drew = X0 at hHeld BX0 PX0 KX0 ⊢
    refine wpAnyH_take (i := 1) (v := .agg #[.int .u64 p0, .int .u64 p1]) rfl (by kernel_rfl) (by kernel_rfl) (by kernel_rfl) (fun _ _ _ h => h) (Or.inl ⟨by rfl, by intro w' h; have q0 := Blk.cell h.1 0; have q1 := Blk.cell h.1 1; simp only [List.getElem?_cons_zero, List.getElem?_cons_succ] at q0 q1; go_simp⟩) hHeld ?_
    show wpAnyH _ _ _ _ _ _ _ (Act.put _ (some 19) _) _
    simp only [Act.put, List.setIfInBounds_toArray, List.set_cons_zero, List.set_cons_succ]
    refine wpAnyH_take (i := 2) (v := .agg (ocells k amt (cL c) id).toArray) rfl (by kernel_rfl) (by kernel_rfl) (by kernel_rfl) (fun _ _ _ h => h) (yieldsIf_load_mid (by rfl) 55 (.tmp 4) rfl gk 0 rfl (ocells k amt (cL c) id) _ (fun w h => Blk.all h.2) Try.underlying55 rfl HZK.out) hHeld ?_
    show wpAnyH _ _ _ _ _ _ _ (Act.put _ (some 20) _) _
    simp only [Act.put, List.setIfInBounds_toArray, List.set_cons_zero, List.set_cons_succ]
    refine wpAnyH_ready (rs := [0, 10]) (by kernel_rfl) (by simp) ?_
    refine AllReadyH.cons rfl (fun K hK => ?_) (AllReadyH.cons rfl (fun K hK => ?_) AllReadyH.nil)
    · refine step_call rfl 28 #[.const (.int .u32 1)] #[22] rfl #[.int .u32 1] (by simp [Act.eval]) (by go_simp) (new_any 1 X0) ?_
      rintro e X1 ⟨rfl, hB⟩
      have BX1 : Hid (Below w.heap.size w X1) := Lib.hid (BX0.out.trans (hB.mono BX0.out.size))
      have PX1 : Hid (Blk X1 gp 24 [.int .u64 p0, .int .u64 p1]) := Lib.hid (PX0.out.below hB PX0.out.lt)
      have KX1 : Hid (Blk X1 gk 55 (ocells k amt (cL c) id)) := Lib.hid (KX0.out.below hB KX0.out.lt)
      clear BX0 PX0 KX0 hB
      refine ⟨_, rfl, hK.out _ _ (⟨PX1.out, KX1.out⟩) (fun hHeld => ?_)⟩
      clear hK K
      show wpAnyH _ _ _ _ _ _ _ (Act.put _ (some 18) _) _
      simp only [Act.put, List.setIfInBounds_toArray, List.set_cons_zero, List.set_cons_succ]
      refine wpAnyH_ready (rs := [3, 10]) (by kernel_rfl) (by simp) ?_
      refine AllReadyH.cons rfl (fun K hK => ?_) (AllReadyH.cons rfl (fun K hK => ?_) AllReadyH.nil)
      · refine step_call rfl 25 #[.tmp 20] #[55] rfl #[.agg (ocells k amt (cL c) id).toArray] (by simp [Act.eval]) (by go_simp) (op_any k amt id (cL c) X1 (cL_ok HOK.out)) ?_
        rintro e X2 ⟨rfl, hB⟩
        have BX2 : Hid (Below w.heap.size w X2) := Lib.hid (BX1.out.trans (hB.mono BX1.out.size))
        have PX2 : Hid (Blk X2 gp 24 [.int .u64 p0, .int .u64 p1]) := Lib.hid (PX1.out.below hB PX1.out.lt)
        have KX2 : Hid (Blk X2 gk 55 (ocells k amt (cL c) id)) := Lib.hid (KX1.out.below hB KX1.out.lt)
        clear BX1 PX1 KX1 hB
        refine ⟨_, rfl, hK.out _ _ (⟨PX2.out, KX2.out⟩) (fun hHeld => ?_)⟩
        clear hK K
        show wpAnyH _ _ _ _ _ _ _ (Act.put _ (some 21) _) _
        simp only [Act.put, List.setIfInBounds_toArray, List.set_cons_zero, List.set_cons_succ]
        refine wpAnyH_take (i := 4) (v := .agg (cL c).cells.toArray) rfl (by kernel_rfl) (by kernel_rfl) (by kernel_rfl) (fun _ _ _ h => h) (Or.inl ⟨by rfl, fun w h => run_field_op rfl _ rfl _ (field62 k amt (cL c) id (cL_ok HOK.out) w)⟩) hHeld ?_
        show wpAnyH _ _ _ _ _ _ _ (Act.put _ (some 22) _) _
        simp only [Act.put, List.setIfInBounds_toArray, List.set_cons_zero, List.set_cons_succ]
        refine wpAnyH_take (i := 5) (v := .agg (ocells 2 0 (cL c) 0).toArray) rfl (by kernel_rfl) (by kernel_rfl) (by kernel_rfl) (fun _ _ _ h => h) (Or.inl ⟨by rfl, fun w h => run_build_op (vals := #[(0, .int .i64 2), (2, .agg (cL c).cells.toArray)]) rfl (by simp [Act.eval]) _ _ (built62l 2 (cL c) (cL_ok HOK.out) w)⟩) hHeld ?_
        show wpAnyH _ _ _ _ _ _ _ (Act.put _ (some 23) _) _
        simp only [Act.put, List.setIfInBounds_toArray, List.set_cons_zero, List.set_cons_succ]
        refine wpAnyH_ready (rs := [6, 10]) (by kernel_rfl) (by simp) ?_
        refine AllReadyH.cons rfl (fun K hK => ?_) (AllReadyH.cons rfl (fun K hK => ?_) AllReadyH.nil)
        · refine step_call rfl 24 #[.tmp 18, .tmp 19, .const (.int .i64 0), .tmp 23] #[31, 24, 36, 62] rfl #[.agg #[.int .u32 1, .int .u64 0, .int .u64 0, .int .u64 0, .int .u64 0, .int .u64 0, .slice none 0 0], .agg #[.int .u64 p0, .int .u64 p1], .int .i64 0, .agg (ocells 2 0 (cL c) 0).toArray] (by simp [Act.eval]) (by go_simp) (HNX.out X2) ?_
          rintro e X3 ⟨aN, nN, cN, rfl, hR, hlen, hB⟩
          have HLEN := Lib.hid hlen
          have BX3 : Hid (Below w.heap.size w X3) := Lib.hid (BX2.out.trans (hB.mono BX2.out.size))
          have PX3 : Hid (Blk X3 gp 24 [.int .u64 p0, .int .u64 p1]) := Lib.hid (PX2.out.below hB PX2.out.lt)
          have KX3 : Hid (Blk X3 gk 55 (ocells k amt (cL c) id)) := Lib.hid (KX2.out.below hB KX2.out.lt)
          have RX3 : Hid (X3.ownsRow w.heap.size 60 36 (.slice aN nN cN) nN (cflat SS.cs)) := Lib.hid (own_mono hR BX2.out.size)
          clear BX2 PX2 KX2 hB hR hlen
          refine ⟨_, rfl, hK.out _ _ (⟨PX3.out, KX3.out⟩) (fun hHeld => ?_)⟩
          clear hK K
          show wpAnyH _ _ _ _ _ _ _ (Act.put _ (some 24) _) _
          simp only [Act.put, List.setIfInBounds_toArray, List.set_cons_zero, List.set_cons_succ]
          refine wpAnyH_take (i := 7) (v := .tuple #[.agg #[.int .u32 SS.ch, .int .u64 SS.rd, .int .u64 SS.m0, .int .u64 SS.m1, .int .u64 SS.t0, .int .u64 SS.t1, .slice aN nN cN], .int .i64 E1]) rfl (by kernel_rfl) (by kernel_rfl) (by kernel_rfl) (fun _ _ _ h => h) (Or.inl ⟨by rfl, fun w _ => by rfl⟩) hHeld ?_
          show wpAnyH _ _ _ _ _ _ _ (Act.put _ (some 17) _) _
          simp only [Act.put, List.setIfInBounds_toArray, List.set_cons_zero, List.set_cons_succ]
          refine wpAnyH_take (i := 8) (v := .agg #[.int .u32 SS.ch, .int .u64 SS.rd, .int .u64 SS.m0, .int .u64 SS.m1, .int .u64 SS.t0, .int .u64 SS.t1, .slice aN nN cN]) rfl (by kernel_rfl) (by kernel_rfl) (by kernel_rfl) (fun _ _ _ h => h) (Or.inl ⟨by rfl, by intro w' h; go_simp⟩) hHeld ?_
          show wpAnyH _ _ _ _ _ _ _ (Act.put _ (some 25) _) _
          simp only [Act.put, List.setIfInBounds_toArray, List.set_cons_zero, List.set_cons_succ]
          refine wpAnyH_take (i := 9) (v := .int .i64 E1) rfl (by kernel_rfl) (by kernel_rfl) (by kernel_rfl) (fun _ _ _ h => h) (Or.inl ⟨by rfl, by intro w' h; go_simp⟩) hHeld ?_
          show wpAnyH _ _ _ _ _ _ _ (Act.put _ (some 26) _) _
          simp only [Act.put, List.setIfInBounds_toArray, List.set_cons_zero, List.set_cons_succ]
          refine wpAnyH_ready (rs := [10]) (by kernel_rfl) (by simp) ?_
          refine AllReadyH.cons rfl (fun K hK => ?_) AllReadyH.nil
          refine step_new rfl 31 rfl #[.int .u32 0, .int .u64 0, .int .u64 0, .int .u64 0, .int .u64 0, .int .u64 0, .slice none 0 0] (.pointer (some ⟨X3.heap.size, 0, none⟩)) (by kernel_rfl) ?_
          have hB : Below X3.heap.size X3 (X3.alloc (.cells #[.int .u32 0, .int .u64 0, .int .u64 0, .int .u64 0, .int .u64 0, .int .u64 0, .slice none 0 0] 31)) := (Below.refl _ _).alloc (Nat.le_refl _) _
          have hZ := Blk.new X3 31 [.int .u32 0, .int .u64 0, .int .u64 0, .int .u64 0, .int .u64 0, .int .u64 0, .slice none 0 0]
          generalize X3.alloc (.cells #[.int .u32 0, .int .u64 0, .int .u64 0, .int .u64 0, .int .u64 0, .int .u64 0, .slice none 0 0] 31) = X4 at hB hZ ⊢
          obtain ⟨gN, hgN⟩ : ∃ q, X3.heap.size = q := ⟨_, rfl⟩
          have HGN : Hid (w.heap.size ≤ gN ∧ gp < gN ∧ gk < gN) := Lib.hid ⟨by have := BX3.out.size; omega, by have := PX3.out.lt; omega, by have := KX3.out.lt; omega⟩
          rw [hgN] at hZ ⊢
          clear hgN
          have BX4 : Hid (Below w.heap.size w X4) := Lib.hid (BX3.out.trans (hB.mono BX3.out.size))
          have PX4 : Hid (Blk X4 gp 24 [.int .u64 p0, .int .u64 p1]) := Lib.hid (PX3.out.below hB PX3.out.lt)
          have KX4 : Hid (Blk X4 gk 55 (ocells k amt (cL c) id)) := Lib.hid (KX3.out.below hB KX3.out.lt)
          have RX4 : Hid (X4.ownsRow w.heap.size 60 36 (.slice aN nN cN) nN (cflat SS.cs)) := Lib.hid (own_keep RX3.out hB)
          have ZX4 : Hid (Blk X4 gN 31 [.int .u32 0, .int .u64 0, .int .u64 0, .int .u64 0, .int .u64 0, .int .u64 0, .slice none 0 0]) := Lib.hid (hZ)
          clear BX3 PX3 KX3 RX3 hB hZ
          refine hK.out _ _ (⟨PX4.out, KX4.out⟩) (fun hHeld => ?_)
          clear hK K
          show wpAnyH _ _ _ _ _ _ _ (Act.put _ (some 7) _) _
          simp only [Act.put, List.setIfInBounds_toArray, List.set_cons_zero, List.set_cons_succ]
          refine wpAnyH_ready (rs := [11]) (by kernel_rfl) (by simp) ?_
          refine AllReadyH.cons rfl (fun K hK => ?_) AllReadyH.nil
          refine step_store rfl 31 (.tmp 7) (.tmp 25) rfl gN [.int .u32 SS.ch, .int .u64 SS.rd, .int .u64 SS.m0, .int .u64 SS.m1, .int .u64 SS.t0, .int .u64 SS.t1, .slice aN nN cN] rfl rfl 31 _ ZX4.out info31 rfl (by simp [Value.oneCell']) ?_
          intro X5 hZ hO
          have hKW : ∀ q, some gN = some q → w.heap.size ≤ q := fun q hq => by injection hq with hq; have := HGN.out; omega
          have hnP : some gp ≠ some gN := fun e => by injection e with e; have := HGN.out; omega
          have hnK : some gk ≠ some gN := fun e => by injection e with e; have := HGN.out; omega
          have BX5 : Hid (Below w.heap.size w X5) := Lib.hid (BX4.out.grown hO BX4.out.size hKW)
          have PX5 : Hid (Blk X5 gp 24 [.int .u64 p0, .int .u64 p1]) := Lib.hid (PX4.out.grown hO hnP)
          have KX5 : Hid (Blk X5 gk 55 (ocells k amt (cL c) id)) := Lib.hid (KX4.out.grown hO hnK)
          have RX5 : Hid (X5.ownsRow w.heap.size 60 36 (.slice aN nN cN) nN (cflat SS.cs)) := Lib.hid (RX4.out.kept hO (.inr (fun e => own_ne RX4.out ZX4.out (by decide) e.symm)))
          have ZX5 : Hid (Blk X5 gN 31 [.int .u32 SS.ch, .int .u64 SS.rd, .int .u64 SS.m0, .int .u64 SS.m1, .int .u64 SS.t0, .int .u64 SS.t1, .slice aN nN cN]) := Lib.hid (hZ)
          clear BX4 PX4 KX4 RX4 hZ hO hKW ZX4 hnP hnK
          refine hK.out _ _ (⟨PX5.out, KX5.out⟩) (fun hHeld => ?_)
          clear hK K
          show wpAnyH _ _ _ _ _ _ _ (Act.put _ none _) _
          simp only [Act.put]
          refine wpAnyH_take (i := 12) (v := .int .i64 E1) rfl (by kernel_rfl) (by kernel_rfl) (by kernel_rfl) (fun _ _ _ h => h) (Or.inl ⟨by rfl, fun w _ => by rfl⟩) hHeld ?_
          show wpAnyH _ _ _ _ _ _ _ (Act.put _ (some 8) _) _
          simp only [Act.put, List.setIfInBounds_toArray, List.set_cons_zero, List.set_cons_succ]
          refine wpAnyH_done (by kernel_rfl) ?_ _
          go_wp2
          go_meet
          exact ⟨gN, aN, nN, cN, rfl, rfl, BX5, PX5, KX5, Lib.hid ⟨ZX5.out, RX5.out, HSO.out, HLEN.out⟩, HGN⟩
        · refine step_new rfl 31 rfl #[.int .u32 0, .int .u64 0, .int .u64 0, .int .u64 0, .int .u64 0, .int .u64 0, .slice none 0 0] (.pointer (some ⟨X2.heap.size, 0, none⟩)) (by kernel_rfl) ?_
          have hB : Below X2.heap.size X2 (X2.alloc (.cells #[.int .u32 0, .int .u64 0, .int .u64 0, .int .u64 0, .int .u64 0, .int .u64 0, .slice none 0 0] 31)) := (Below.refl _ _).alloc (Nat.le_refl _) _
          have hZ := Blk.new X2 31 [.int .u32 0, .int .u64 0, .int .u64 0, .int .u64 0, .int .u64 0, .int .u64 0, .slice none 0 0]
          generalize X2.alloc (.cells #[.int .u32 0, .int .u64 0, .int .u64 0, .int .u64 0, .int .u64 0, .int .u64 0, .slice none 0 0] 31) = X3 at hB hZ ⊢
          obtain ⟨gN, hgN⟩ : ∃ q, X2.heap.size = q := ⟨_, rfl⟩
          have HGN : Hid (w.heap.size ≤ gN ∧ gp < gN ∧ gk < gN) := Lib.hid ⟨by have := BX2.out.size; omega, by have := PX2.out.lt; omega, by have := KX2.out.lt; omega⟩
          rw [hgN] at hZ ⊢
          clear hgN
          have BX3 : Hid (Below w.heap.size w X3) := Lib.hid (BX2.out.trans (hB.mono BX2.out.size))
          have PX3 : Hid (Blk X3 gp 24 [.int .u64 p0, .int .u64 p1]) := Lib.hid (PX2.out.below hB PX2.out.lt)
          have KX3 : Hid (Blk X3 gk 55 (ocells k amt (cL c) id)) := Lib.hid (KX2.out.below hB KX2.out.lt)
          have ZX3 : Hid (Blk X3 gN 31 [.int .u32 0, .int .u64 0, .int .u64 0, .int .u64 0, .int .u64 0, .int .u64 0, .slice none 0 0]) := Lib.hid (hZ)
          clear BX2 PX2 KX2 hB hZ
          refine hK.out _ _ (⟨PX3.out, KX3.out⟩) (fun hHeld => ?_)
          clear hK K
          show wpAnyH _ _ _ _ _ _ _ (Act.put _ (some 7) _) _
          simp only [Act.put, List.setIfInBounds_toArray, List.set_cons_zero, List.set_cons_succ]
          refine wpAnyH_ready (rs := [6]) (by kernel_rfl) (by simp) ?_
          refine AllReadyH.cons rfl (fun K hK => ?_) AllReadyH.nil
          refine step_call rfl 24 #[.tmp 18, .tmp 19, .const (.int .i64 0), .tmp 23] #[31, 24, 36, 62] rfl #[.agg #[.int .u32 1, .int .u64 0, .int .u64 0, .int .u64 0, .int .u64 0, .int .u64 0, .slice none 0 0], .agg #[.int .u64 p0, .int .u64 p1], .int .i64 0, .agg (ocells 2 0 (cL c) 0).toArray] (by simp [Act.eval]) (by go_simp) (HNX.out X3) ?_
          rintro e X4 ⟨aN, nN, cN, rfl, hR, hlen, hB⟩
          have HLEN := Lib.hid hlen
          have BX4 : Hid (Below w.heap.size w X4) := Lib.hid (BX3.out.trans (hB.mono BX3.out.size))
          have PX4 : Hid (Blk X4 gp 24 [.int .u64 p0, .int .u64 p1]) := Lib.hid (PX3.out.below hB PX3.out.lt)
          have KX4 : Hid (Blk X4 gk 55 (ocells k amt (cL c) id)) := Lib.hid (KX3.out.below hB KX3.out.lt)
          have ZX4 : Hid (Blk X4 gN 31 [.int .u32 0, .int .u64 0, .int .u64 0, .int .u64 0, .int .u64 0, .int .u64 0, .slice none 0 0]) := Lib.hid (ZX3.out.below hB ZX3.out.lt)
          have RX4 : Hid (X4.ownsRow w.heap.size 60 36 (.slice aN nN cN) nN (cflat SS.cs)) := Lib.hid (own_mono hR BX3.out.size)
          clear BX3 PX3 KX3 ZX3 hB hR hlen
          refine ⟨_, rfl, hK.out _ _ (⟨PX4.out, KX4.out⟩) (fun hHeld => ?_)⟩
          clear hK K
          show wpAnyH _ _ _ _ _ _ _ (Act.put _ (some 24) _) _
          simp only [Act.put, List.setIfInBounds_toArray, List.set_cons_zero, List.set_cons_succ]
          refine wpAnyH_take (i := 7) (v := .tuple #[.agg #[.int .u32 SS.ch, .int .u64 SS.rd, .int .u64 SS.m0, .int .u64 SS.m1, .int .u64 SS.t0, .int .u64 SS.t1, .slice aN nN cN], .int .i64 E1]) rfl (by kernel_rfl) (by kernel_rfl) (by kernel_rfl) (fun _ _ _ h => h) (Or.inl ⟨by rfl, fun w _ => by rfl⟩) hHeld ?_
          show wpAnyH _ _ _ _ _ _ _ (Act.put _ (some 17) _) _
          simp only [Act.put, List.setIfInBounds_toArray, List.set_cons_zero, List.set_cons_succ]
          refine wpAnyH_take (i := 8) (v := .agg #[.int .u32 SS.ch, .int .u64 SS.rd, .int .u64 SS.m0, .int .u64 SS.m1, .int .u64 SS.t0, .int .u64 SS.t1, .slice aN nN cN]) rfl (by kernel_rfl) (by kernel_rfl) (by kernel_rfl) (fun _ _ _ h => h) (Or.inl ⟨by rfl, by intro w' h; go_simp⟩) hHeld ?_
          show wpAnyH _ _ _ _ _ _ _ (Act.put _ (some 25) _) _
          simp only [Act.put, List.setIfInBounds_toArray, List.set_cons_zero, List.set_cons_succ]
          refine wpAnyH_take (i := 9) (v := .int .i64 E1) rfl (by kernel_rfl) (by kernel_rfl) (by kernel_rfl) (fun _ _ _ h => h) (Or.inl ⟨by rfl, by intro w' h; go_simp⟩) hHeld ?_
          show wpAnyH _ _ _ _ _ _ _ (Act.put _ (some 26) _) _
          simp only [Act.put, List.setIfInBounds_toArray, List.set_cons_zero, List.set_cons_succ]
          refine wpAnyH_ready (rs := [11]) (by kernel_rfl) (by simp) ?_
          refine AllReadyH.cons rfl (fun K hK => ?_) AllReadyH.nil
          refine step_store rfl 31 (.tmp 7) (.tmp 25) rfl gN [.int .u32 SS.ch, .int .u64 SS.rd, .int .u64 SS.m0, .int .u64 SS.m1, .int .u64 SS.t0, .int .u64 SS.t1, .slice aN nN cN] rfl rfl 31 _ ZX4.out info31 rfl (by simp [Value.oneCell']) ?_
          intro X5 hZ hO
          have hKW : ∀ q, some gN = some q → w.heap.size ≤ q := fun q hq => by injection hq with hq; have := HGN.out; omega
          have hnP : some gp ≠ some gN := fun e => by injection e with e; have := HGN.out; omega
          have hnK : some gk ≠ some gN := fun e => by injection e with e; have := HGN.out; omega
          have BX5 : Hid (Below w.heap.size w X5) := Lib.hid (BX4.out.grown hO BX4.out.size hKW)
          have PX5 : Hid (Blk X5 gp 24 [.int .u64 p0, .int .u64 p1]) := Lib.hid (PX4.out.grown hO hnP)
          have KX5 : Hid (Blk X5 gk 55 (ocells k amt (cL c) id)) := Lib.hid (KX4.out.grown hO hnK)
          have RX5 : Hid (X5.ownsRow w.heap.size 60 36 (.slice aN nN cN) nN (cflat SS.cs)) := Lib.hid (RX4.out.kept hO (.inr (fun e => own_ne RX4.out ZX4.out (by decide) e.symm)))
          have ZX5 : Hid (Blk X5 gN 31 [.int .u32 SS.ch, .int .u64 SS.rd, .int .u64 SS.m0, .int .u64 SS.m1, .int .u64 SS.t0, .int .u64 SS.t1, .slice aN nN cN]) := Lib.hid (hZ)
          clear BX4 PX4 KX4 RX4 hZ hO hKW ZX4 hnP hnK
          refine hK.out _ _ (⟨PX5.out, KX5.out⟩) (fun hHeld => ?_)
          clear hK K
          show wpAnyH _ _ _ _ _ _ _ (Act.put _ none _) _
          simp only [Act.put]
          refine wpAnyH_take (i := 12) (v := .int .i64 E1) rfl (by kernel_rfl) (by kernel_rfl) (by kernel_rfl) (fun _ _ _ h => h) (Or.inl ⟨by rfl, fun w _ => by rfl⟩) hHeld ?_
          show wpAnyH _ _ _ _ _ _ _ (Act.put _ (some 8) _) _
          simp only [Act.put, List.setIfInBounds_toArray, List.set_cons_zero, List.set_cons_succ]
          refine wpAnyH_done (by kernel_rfl) ?_ _
          go_wp2
          go_meet
          exact ⟨gN, aN, nN, cN, rfl, rfl, BX5, PX5, KX5, Lib.hid ⟨ZX5.out, RX5.out, HSO.out, HLEN.out⟩, HGN⟩
      · refine step_new rfl 31 rfl #[.int .u32 0, .int .u64 0, .int .u64 0, .int .u64 0, .int .u64 0, .int .u64 0, .slice none 0 0] (.pointer (some ⟨X1.heap.size, 0, none⟩)) (by kernel_rfl) ?_
        have hB : Below X1.heap.size X1 (X1.alloc (.cells #[.int .u32 0, .int .u64 0, .int .u64 0, .int .u64 0, .int .u64 0, .int .u64 0, .slice none 0 0] 31)) := (Below.refl _ _).alloc (Nat.le_refl _) _
        have hZ := Blk.new X1 31 [.int .u32 0, .int .u64 0, .int .u64 0, .int .u64 0, .int .u64 0, .int .u64 0, .slice none 0 0]
        generalize X1.alloc (.cells #[.int .u32 0, .int .u64 0, .int .u64 0, .int .u64 0, .int .u64 0, .int .u64 0, .slice none 0 0] 31) = X2 at hB hZ ⊢
        obtain ⟨gN, hgN⟩ : ∃ q, X1.heap.size = q := ⟨_, rfl⟩
        have HGN : Hid (w.heap.size ≤ gN ∧ gp < gN ∧ gk < gN) := Lib.hid ⟨by have := BX1.out.size; omega, by have := PX1.out.lt; omega, by have := KX1.out.lt; omega⟩
        rw [hgN] at hZ ⊢
        clear hgN
        have BX2 : Hid (Below w.heap.size w X2) := Lib.hid (BX1.out.trans (hB.mono BX1.out.size))
        have PX2 : Hid (Blk X2 gp 24 [.int .u64 p0, .int .u64 p1]) := Lib.hid (PX1.out.below hB PX1.out.lt)
        have KX2 : Hid (Blk X2 gk 55 (ocells k amt (cL c) id)) := Lib.hid (KX1.out.below hB KX1.out.lt)
        have ZX2 : Hid (Blk X2 gN 31 [.int .u32 0, .int .u64 0, .int .u64 0, .int .u64 0, .int .u64 0, .int .u64 0, .slice none 0 0]) := Lib.hid (hZ)
        clear BX1 PX1 KX1 hB hZ
        refine hK.out _ _ (⟨PX2.out, KX2.out⟩) (fun hHeld => ?_)
        clear hK K
        show wpAnyH _ _ _ _ _ _ _ (Act.put _ (some 7) _) _
        simp only [Act.put, List.setIfInBounds_toArray, List.set_cons_zero, List.set_cons_succ]
        refine wpAnyH_ready (rs := [3]) (by kernel_rfl) (by simp) ?_
        refine AllReadyH.cons rfl (fun K hK => ?_) AllReadyH.nil
        refine step_call rfl 25 #[.tmp 20] #[55] rfl #[.agg (ocells k amt (cL c) id).toArray] (by simp [Act.eval]) (by go_simp) (op_any k amt id (cL c) X2 (cL_ok HOK.out)) ?_
        rintro e X3 ⟨rfl, hB⟩
        have BX3 : Hid (Below w.heap.size w X3) := Lib.hid (BX2.out.trans (hB.mono BX2.out.size))
        have PX3 : Hid (Blk X3 gp 24 [.int .u64 p0, .int .u64 p1]) := Lib.hid (PX2.out.below hB PX2.out.lt)
        have KX3 : Hid (Blk X3 gk 55 (ocells k amt (cL c) id)) := Lib.hid (KX2.out.below hB KX2.out.lt)
        have ZX3 : Hid (Blk X3 gN 31 [.int .u32 0, .int .u64 0, .int .u64 0, .int .u64 0, .int .u64 0, .int .u64 0, .slice none 0 0]) := Lib.hid (ZX2.out.below hB ZX2.out.lt)
        clear BX2 PX2 KX2 ZX2 hB
        refine ⟨_, rfl, hK.out _ _ (⟨PX3.out, KX3.out⟩) (fun hHeld => ?_)⟩
        clear hK K
        show wpAnyH _ _ _ _ _ _ _ (Act.put _ (some 21) _) _
        simp only [Act.put, List.setIfInBounds_toArray, List.set_cons_zero, List.set_cons_succ]
        refine wpAnyH_take (i := 4) (v := .agg (cL c).cells.toArray) rfl (by kernel_rfl) (by kernel_rfl) (by kernel_rfl) (fun _ _ _ h => h) (Or.inl ⟨by rfl, fun w h => run_field_op rfl _ rfl _ (field62 k amt (cL c) id (cL_ok HOK.out) w)⟩) hHeld ?_
        show wpAnyH _ _ _ _ _ _ _ (Act.put _ (some 22) _) _
        simp only [Act.put, List.setIfInBounds_toArray, List.set_cons_zero, List.set_cons_succ]
        refine wpAnyH_take (i := 5) (v := .agg (ocells 2 0 (cL c) 0).toArray) rfl (by kernel_rfl) (by kernel_rfl) (by kernel_rfl) (fun _ _ _ h => h) (Or.inl ⟨by rfl, fun w h => run_build_op (vals := #[(0, .int .i64 2), (2, .agg (cL c).cells.toArray)]) rfl (by simp [Act.eval]) _ _ (built62l 2 (cL c) (cL_ok HOK.out) w)⟩) hHeld ?_
        show wpAnyH _ _ _ _ _ _ _ (Act.put _ (some 23) _) _
        simp only [Act.put, List.setIfInBounds_toArray, List.set_cons_zero, List.set_cons_succ]
        refine wpAnyH_ready (rs := [6]) (by kernel_rfl) (by simp) ?_
        refine AllReadyH.cons rfl (fun K hK => ?_) AllReadyH.nil
        refine step_call rfl 24 #[.tmp 18, .tmp 19, .const (.int .i64 0), .tmp 23] #[31, 24, 36, 62] rfl #[.agg #[.int .u32 1, .int .u64 0, .int .u64 0, .int .u64 0, .int .u64 0, .int .u64 0, .slice none 0 0], .agg #[.int .u64 p0, .int .u64 p1], .int .i64 0, .agg (ocells 2 0 (cL c) 0).toArray] (by simp [Act.eval]) (by go_simp) (HNX.out X3) ?_
        rintro e X4 ⟨aN, nN, cN, rfl, hR, hlen, hB⟩
        have HLEN := Lib.hid hlen
        have BX4 : Hid (Below w.heap.size w X4) := Lib.hid (BX3.out.trans (hB.mono BX3.out.size))
        have PX4 : Hid (Blk X4 gp 24 [.int .u64 p0, .int .u64 p1]) := Lib.hid (PX3.out.below hB PX3.out.lt)
        have KX4 : Hid (Blk X4 gk 55 (ocells k amt (cL c) id)) := Lib.hid (KX3.out.below hB KX3.out.lt)
        have ZX4 : Hid (Blk X4 gN 31 [.int .u32 0, .int .u64 0, .int .u64 0, .int .u64 0, .int .u64 0, .int .u64 0, .slice none 0 0]) := Lib.hid (ZX3.out.below hB ZX3.out.lt)
        have RX4 : Hid (X4.ownsRow w.heap.size 60 36 (.slice aN nN cN) nN (cflat SS.cs)) := Lib.hid (own_mono hR BX3.out.size)
        clear BX3 PX3 KX3 ZX3 hB hR hlen
        refine ⟨_, rfl, hK.out _ _ (⟨PX4.out, KX4.out⟩) (fun hHeld => ?_)⟩
        clear hK K
        show wpAnyH _ _ _ _ _ _ _ (Act.put _ (some 24) _) _
        simp only [Act.put, List.setIfInBounds_toArray, List.set_cons_zero, List.set_cons_succ]
        refine wpAnyH_take (i := 7) (v := .tuple #[.agg #[.int .u32 SS.ch, .int .u64 SS.rd, .int .u64 SS.m0, .int .u64 SS.m1, .int .u64 SS.t0, .int .u64 SS.t1, .slice aN nN cN], .int .i64 E1]) rfl (by kernel_rfl) (by kernel_rfl) (by kernel_rfl) (fun _ _ _ h => h) (Or.inl ⟨by rfl, fun w _ => by rfl⟩) hHeld ?_
        show wpAnyH _ _ _ _ _ _ _ (Act.put _ (some 17) _) _
        simp only [Act.put, List.setIfInBounds_toArray, List.set_cons_zero, List.set_cons_succ]
        refine wpAnyH_take (i := 8) (v := .agg #[.int .u32 SS.ch, .int .u64 SS.rd, .int .u64 SS.m0, .int .u64 SS.m1, .int .u64 SS.t0, .int .u64 SS.t1, .slice aN nN cN]) rfl (by kernel_rfl) (by kernel_rfl) (by kernel_rfl) (fun _ _ _ h => h) (Or.inl ⟨by rfl, by intro w' h; go_simp⟩) hHeld ?_
        show wpAnyH _ _ _ _ _ _ _ (Act.put _ (some 25) _) _
        simp only [Act.put, List.setIfInBounds_toArray, List.set_cons_zero, List.set_cons_succ]
        refine wpAnyH_take (i := 9) (v := .int .i64 E1) rfl (by kernel_rfl) (by kernel_rfl) (by kernel_rfl) (fun _ _ _ h => h) (Or.inl ⟨by rfl, by intro w' h; go_simp⟩) hHeld ?_
        show wpAnyH _ _ _ _ _ _ _ (Act.put _ (some 26) _) _
        simp only [Act.put, List.setIfInBounds_toArray, List.set_cons_zero, List.set_cons_succ]
        refine wpAnyH_ready (rs := [11]) (by kernel_rfl) (by simp) ?_
        refine AllReadyH.cons rfl (fun K hK => ?_) AllReadyH.nil
        refine step_store rfl 31 (.tmp 7) (.tmp 25) rfl gN [.int .u32 SS.ch, .int .u64 SS.rd, .int .u64 SS.m0, .int .u64 SS.m1, .int .u64 SS.t0, .int .u64 SS.t1, .slice aN nN cN] rfl rfl 31 _ ZX4.out info31 rfl (by simp [Value.oneCell']) ?_
        intro X5 hZ hO
        have hKW : ∀ q, some gN = some q → w.heap.size ≤ q := fun q hq => by injection hq with hq; have := HGN.out; omega
        have hnP : some gp ≠ some gN := fun e => by injection e with e; have := HGN.out; omega
        have hnK : some gk ≠ some gN := fun e => by injection e with e; have := HGN.out; omega
        have BX5 : Hid (Below w.heap.size w X5) := Lib.hid (BX4.out.grown hO BX4.out.size hKW)
        have PX5 : Hid (Blk X5 gp 24 [.int .u64 p0, .int .u64 p1]) := Lib.hid (PX4.out.grown hO hnP)
        have KX5 : Hid (Blk X5 gk 55 (ocells k amt (cL c) id)) := Lib.hid (KX4.out.grown hO hnK)
        have RX5 : Hid (X5.ownsRow w.heap.size 60 36 (.slice aN nN cN) nN (cflat SS.cs)) := Lib.hid (RX4.out.kept hO (.inr (fun e => own_ne RX4.out ZX4.out (by decide) e.symm)))
        have ZX5 : Hid (Blk X5 gN 31 [.int .u32 SS.ch, .int .u64 SS.rd, .int .u64 SS.m0, .int .u64 SS.m1, .int .u64 SS.t0, .int .u64 SS.t1, .slice aN nN cN]) := Lib.hid (hZ)
        clear BX4 PX4 KX4 RX4 hZ hO hKW ZX4 hnP hnK
        refine hK.out _ _ (⟨PX5.out, KX5.out⟩) (fun hHeld => ?_)
        clear hK K
        show wpAnyH _ _ _ _ _ _ _ (Act.put _ none _) _
        simp only [Act.put]
        refine wpAnyH_take (i := 12) (v := .int .i64 E1) rfl (by kernel_rfl) (by kernel_rfl) (by kernel_rfl) (fun _ _ _ h => h) (Or.inl ⟨by rfl, fun w _ => by rfl⟩) hHeld ?_
        show wpAnyH _ _ _ _ _ _ _ (Act.put _ (some 8) _) _
        simp only [Act.put, List.setIfInBounds_toArray, List.set_cons_zero, List.set_cons_succ]
        refine wpAnyH_done (by kernel_rfl) ?_ _
        go_wp2
        go_meet
        exact ⟨gN, aN, nN, cN, rfl, rfl, BX5, PX5, KX5, Lib.hid ⟨ZX5.out, RX5.out, HSO.out, HLEN.out⟩, HGN⟩
    · refine step_new rfl 31 rfl #[.int .u32 0, .int .u64 0, .int .u64 0, .int .u64 0, .int .u64 0, .int .u64 0, .slice none 0 0] (.pointer (some ⟨X0.heap.size, 0, none⟩)) (by kernel_rfl) ?_
      have hB : Below X0.heap.size X0 (X0.alloc (.cells #[.int .u32 0, .int .u64 0, .int .u64 0, .int .u64 0, .int .u64 0, .int .u64 0, .slice none 0 0] 31)) := (Below.refl _ _).alloc (Nat.le_refl _) _
      have hZ := Blk.new X0 31 [.int .u32 0, .int .u64 0, .int .u64 0, .int .u64 0, .int .u64 0, .int .u64 0, .slice none 0 0]
      generalize X0.alloc (.cells #[.int .u32 0, .int .u64 0, .int .u64 0, .int .u64 0, .int .u64 0, .int .u64 0, .slice none 0 0] 31) = X1 at hB hZ ⊢
      obtain ⟨gN, hgN⟩ : ∃ q, X0.heap.size = q := ⟨_, rfl⟩
      have HGN : Hid (w.heap.size ≤ gN ∧ gp < gN ∧ gk < gN) := Lib.hid ⟨by have := BX0.out.size; omega, by have := PX0.out.lt; omega, by have := KX0.out.lt; omega⟩
      rw [hgN] at hZ ⊢
      clear hgN
      have BX1 : Hid (Below w.heap.size w X1) := Lib.hid (BX0.out.trans (hB.mono BX0.out.size))
      have PX1 : Hid (Blk X1 gp 24 [.int .u64 p0, .int .u64 p1]) := Lib.hid (PX0.out.below hB PX0.out.lt)
      have KX1 : Hid (Blk X1 gk 55 (ocells k amt (cL c) id)) := Lib.hid (KX0.out.below hB KX0.out.lt)
      have ZX1 : Hid (Blk X1 gN 31 [.int .u32 0, .int .u64 0, .int .u64 0, .int .u64 0, .int .u64 0, .int .u64 0, .slice none 0 0]) := Lib.hid (hZ)
      clear BX0 PX0 KX0 hB hZ
      refine hK.out _ _ (⟨PX1.out, KX1.out⟩) (fun hHeld => ?_)
      clear hK K
      show wpAnyH _ _ _ _ _ _ _ (Act.put _ (some 7) _) _
      simp only [Act.put, List.setIfInBounds_toArray, List.set_cons_zero, List.set_cons_succ]
      refine wpAnyH_ready (rs := [0]) (by kernel_rfl) (by simp) ?_
      refine AllReadyH.cons rfl (fun K hK => ?_) AllReadyH.nil
      refine step_call rfl 28 #[.const (.int .u32 1)] #[22] rfl #[.int .u32 1] (by simp [Act.eval]) (by go_simp) (new_any 1 X1) ?_
      rintro e X2 ⟨rfl, hB⟩
      have BX2 : Hid (Below w.heap.size w X2) := Lib.hid (BX1.out.trans (hB.mono BX1.out.size))
      have PX2 : Hid (Blk X2 gp 24 [.int .u64 p0, .int .u64 p1]) := Lib.hid (PX1.out.below hB PX1.out.lt)
      have KX2 : Hid (Blk X2 gk 55 (ocells k amt (cL c) id)) := Lib.hid (KX1.out.below hB KX1.out.lt)
      have ZX2 : Hid (Blk X2 gN 31 [.int .u32 0, .int .u64 0, .int .u64 0, .int .u64 0, .int .u64 0, .int .u64 0, .slice none 0 0]) := Lib.hid (ZX1.out.below hB ZX1.out.lt)
      clear BX1 PX1 KX1 ZX1 hB
      refine ⟨_, rfl, hK.out _ _ (⟨PX2.out, KX2.out⟩) (fun hHeld => ?_)⟩
      clear hK K
      show wpAnyH _ _ _ _ _ _ _ (Act.put _ (some 18) _) _
      simp only [Act.put, List.setIfInBounds_toArray, List.set_cons_zero, List.set_cons_succ]
      refine wpAnyH_ready (rs := [3]) (by kernel_rfl) (by simp) ?_
      refine AllReadyH.cons rfl (fun K hK => ?_) AllReadyH.nil
      refine step_call rfl 25 #[.tmp 20] #[55] rfl #[.agg (ocells k amt (cL c) id).toArray] (by simp [Act.eval]) (by go_simp) (op_any k amt id (cL c) X2 (cL_ok HOK.out)) ?_
      rintro e X3 ⟨rfl, hB⟩
      have BX3 : Hid (Below w.heap.size w X3) := Lib.hid (BX2.out.trans (hB.mono BX2.out.size))
      have PX3 : Hid (Blk X3 gp 24 [.int .u64 p0, .int .u64 p1]) := Lib.hid (PX2.out.below hB PX2.out.lt)
      have KX3 : Hid (Blk X3 gk 55 (ocells k amt (cL c) id)) := Lib.hid (KX2.out.below hB KX2.out.lt)
      have ZX3 : Hid (Blk X3 gN 31 [.int .u32 0, .int .u64 0, .int .u64 0, .int .u64 0, .int .u64 0, .int .u64 0, .slice none 0 0]) := Lib.hid (ZX2.out.below hB ZX2.out.lt)
      clear BX2 PX2 KX2 ZX2 hB
      refine ⟨_, rfl, hK.out _ _ (⟨PX3.out, KX3.out⟩) (fun hHeld => ?_)⟩
      clear hK K
      show wpAnyH _ _ _ _ _ _ _ (Act.put _ (some 21) _) _
      simp only [Act.put, List.setIfInBounds_toArray, List.set_cons_zero, List.set_cons_succ]
      refine wpAnyH_take (i := 4) (v := .agg (cL c).cells.toArray) rfl (by kernel_rfl) (by kernel_rfl) (by kernel_rfl) (fun _ _ _ h => h) (Or.inl ⟨by rfl, fun w h => run_field_op rfl _ rfl _ (field62 k amt (cL c) id (cL_ok HOK.out) w)⟩) hHeld ?_
      show wpAnyH _ _ _ _ _ _ _ (Act.put _ (some 22) _) _
      simp only [Act.put, List.setIfInBounds_toArray, List.set_cons_zero, List.set_cons_succ]
      refine wpAnyH_take (i := 5) (v := .agg (ocells 2 0 (cL c) 0).toArray) rfl (by kernel_rfl) (by kernel_rfl) (by kernel_rfl) (fun _ _ _ h => h) (Or.inl ⟨by rfl, fun w h => run_build_op (vals := #[(0, .int .i64 2), (2, .agg (cL c).cells.toArray)]) rfl (by simp [Act.eval]) _ _ (built62l 2 (cL c) (cL_ok HOK.out) w)⟩) hHeld ?_
      show wpAnyH _ _ _ _ _ _ _ (Act.put _ (some 23) _) _
      simp only [Act.put, List.setIfInBounds_toArray, List.set_cons_zero, List.set_cons_succ]
      refine wpAnyH_ready (rs := [6]) (by kernel_rfl) (by simp) ?_
      refine AllReadyH.cons rfl (fun K hK => ?_) AllReadyH.nil
      refine step_call rfl 24 #[.tmp 18, .tmp 19, .const (.int .i64 0), .tmp 23] #[31, 24, 36, 62] rfl #[.agg #[.int .u32 1, .int .u64 0, .int .u64 0, .int .u64 0, .int .u64 0, .int .u64 0, .slice none 0 0], .agg #[.int .u64 p0, .int .u64 p1], .int .i64 0, .agg (ocells 2 0 (cL c) 0).toArray] (by simp [Act.eval]) (by go_simp) (HNX.out X3) ?_
      rintro e X4 ⟨aN, nN, cN, rfl, hR, hlen, hB⟩
      have HLEN := Lib.hid hlen
      have BX4 : Hid (Below w.heap.size w X4) := Lib.hid (BX3.out.trans (hB.mono BX3.out.size))
      have PX4 : Hid (Blk X4 gp 24 [.int .u64 p0, .int .u64 p1]) := Lib.hid (PX3.out.below hB PX3.out.lt)
      have KX4 : Hid (Blk X4 gk 55 (ocells k amt (cL c) id)) := Lib.hid (KX3.out.below hB KX3.out.lt)
      have ZX4 : Hid (Blk X4 gN 31 [.int .u32 0, .int .u64 0, .int .u64 0, .int .u64 0, .int .u64 0, .int .u64 0, .slice none 0 0]) := Lib.hid (ZX3.out.below hB ZX3.out.lt)
      have RX4 : Hid (X4.ownsRow w.heap.size 60 36 (.slice aN nN cN) nN (cflat SS.cs)) := Lib.hid (own_mono hR BX3.out.size)
      clear BX3 PX3 KX3 ZX3 hB hR hlen
      refine ⟨_, rfl, hK.out _ _ (⟨PX4.out, KX4.out⟩) (fun hHeld => ?_)⟩
      clear hK K
      show wpAnyH _ _ _ _ _ _ _ (Act.put _ (some 24) _) _
      simp only [Act.put, List.setIfInBounds_toArray, List.set_cons_zero, List.set_cons_succ]
      refine wpAnyH_take (i := 7) (v := .tuple #[.agg #[.int .u32 SS.ch, .int .u64 SS.rd, .int .u64 SS.m0, .int .u64 SS.m1, .int .u64 SS.t0, .int .u64 SS.t1, .slice aN nN cN], .int .i64 E1]) rfl (by kernel_rfl) (by kernel_rfl) (by kernel_rfl) (fun _ _ _ h => h) (Or.inl ⟨by rfl, fun w _ => by rfl⟩) hHeld ?_
      show wpAnyH _ _ _ _ _ _ _ (Act.put _ (some 17) _) _
      simp only [Act.put, List.setIfInBounds_toArray, List.set_cons_zero, List.set_cons_succ]
      refine wpAnyH_take (i := 8) (v := .agg #[.int .u32 SS.ch, .int .u64 SS.rd, .int .u64 SS.m0, .int .u64 SS.m1, .int .u64 SS.t0, .int .u64 SS.t1, .slice aN nN cN]) rfl (by kernel_rfl) (by kernel_rfl) (by kernel_rfl) (fun _ _ _ h => h) (Or.inl ⟨by rfl, by intro w' h; go_simp⟩) hHeld ?_
      show wpAnyH _ _ _ _ _ _ _ (Act.put _ (some 25) _) _
      simp only [Act.put, List.setIfInBounds_toArray, List.set_cons_zero, List.set_cons_succ]
      refine wpAnyH_take (i := 9) (v := .int .i64 E1) rfl (by kernel_rfl) (by kernel_rfl) (by kernel_rfl) (fun _ _ _ h => h) (Or.inl ⟨by rfl, by intro w' h; go_simp⟩) hHeld ?_
      show wpAnyH _ _ _ _ _ _ _ (Act.put _ (some 26) _) _
      simp only [Act.put, List.setIfInBounds_toArray, List.set_cons_zero, List.set_cons_succ]
      refine wpAnyH_ready (rs := [11]) (by kernel_rfl) (by simp) ?_
      refine AllReadyH.cons rfl (fun K hK => ?_) AllReadyH.nil
      refine step_store rfl 31 (.tmp 7) (.tmp 25) rfl gN [.int .u32 SS.ch, .int .u64 SS.rd, .int .u64 SS.m0, .int .u64 SS.m1, .int .u64 SS.t0, .int .u64 SS.t1, .slice aN nN cN] rfl rfl 31 _ ZX4.out info31 rfl (by simp [Value.oneCell']) ?_
      intro X5 hZ hO
      have hKW : ∀ q, some gN = some q → w.heap.size ≤ q := fun q hq => by injection hq with hq; have := HGN.out; omega
      have hnP : some gp ≠ some gN := fun e => by injection e with e; have := HGN.out; omega
      have hnK : some gk ≠ some gN := fun e => by injection e with e; have := HGN.out; omega
      have BX5 : Hid (Below w.heap.size w X5) := Lib.hid (BX4.out.grown hO BX4.out.size hKW)
      have PX5 : Hid (Blk X5 gp 24 [.int .u64 p0, .int .u64 p1]) := Lib.hid (PX4.out.grown hO hnP)
      have KX5 : Hid (Blk X5 gk 55 (ocells k amt (cL c) id)) := Lib.hid (KX4.out.grown hO hnK)
      have RX5 : Hid (X5.ownsRow w.heap.size 60 36 (.slice aN nN cN) nN (cflat SS.cs)) := Lib.hid (RX4.out.kept hO (.inr (fun e => own_ne RX4.out ZX4.out (by decide) e.symm)))
      have ZX5 : Hid (Blk X5 gN 31 [.int .u32 SS.ch, .int .u64 SS.rd, .int .u64 SS.m0, .int .u64 SS.m1, .int .u64 SS.t0, .int .u64 SS.t1, .slice aN nN cN]) := Lib.hid (hZ)
      clear BX4 PX4 KX4 RX4 hZ hO hKW ZX4 hnP hnK
      refine hK.out _ _ (⟨PX5.out, KX5.out⟩) (fun hHeld => ?_)
      clear hK K
      show wpAnyH _ _ _ _ _ _ _ (Act.put _ none _) _
      simp only [Act.put]
      refine wpAnyH_take (i := 12) (v := .int .i64 E1) rfl (by kernel_rfl) (by kernel_rfl) (by kernel_rfl) (fun _ _ _ h => h) (Or.inl ⟨by rfl, fun w _ => by rfl⟩) hHeld ?_
      show wpAnyH _ _ _ _ _ _ _ (Act.put _ (some 8) _) _
      simp only [Act.put, List.setIfInBounds_toArray, List.set_cons_zero, List.set_cons_succ]
      refine wpAnyH_done (by kernel_rfl) ?_ _
      go_wp2
      go_meet
      exact ⟨gN, aN, nN, cN, rfl, rfl, BX5, PX5, KX5, Lib.hid ⟨ZX5.out, RX5.out, HSO.out, HLEN.out⟩, HGN⟩
  case rest =>
    clear BC PC KC HNX
    obtain ⟨gs, aN, nN, cN, rfl, rfl, BD, PD, KD, SD, HGS⟩ := hcut
    generalize wc = D at BD PD KD SD ⊢
    by_cases h1 : E1 = 0
    case neg =>
      have b1 : (E1 != 0) = true := by simpa using h1
      clear h1
      go_wp2_with fail
      refine (awake_any D).mono ?_
      rintro e Z ⟨rfl, hB⟩
      go_wp2
      go_ret
      exact ⟨rfl, BD.out.trans (hB.mono BD.out.size)⟩
    subst h1
    obtain ⟨e1, e2⟩ := first_S HE1.out
    rw [e1] at HSS
    have e3 := HSS.out
    subst e3
    have HS1 := Lib.hid e2
    clear e1 e2 HSS HE1 HSO
    have hnn : nN = 1 := SD.out.len.symm
    subst hnn
    obtain ⟨hv, he⟩ := heldS1 HOK.out
    have HSE := Lib.hid (second d HOK.out hp0 hp1 HS1.out)
    generalize hKd : (if d = true then (3 : Int) else 4) = kd at HSE
    obtain ⟨E2, hE2⟩ : ∃ q, nextE (S1 c) p0 p1 1 kd 0 cnd0 c.id = q := ⟨_, rfl⟩
    obtain ⟨SS, hSS⟩ : ∃ q, nextS (S1 c) p0 p1 1 kd 0 cnd0 c.id = q := ⟨_, rfl⟩
    rw [hE2, hSS] at HSE
    have HSO : Hid (∀ x ∈ SS.cs, x.Ok) := Lib.hid (by
      rw [← hSS]; unfold nextS
      split
      · exact doS_cok (S1 c).nxt (S1_cok HOK.out) _ _ _ _ cnd0_ok _
      · intro x hx; cases hx)
    have HNX : Hid (∀ X, CRow X aN (S1 c).cs → Calls Try.prog 24 #[.agg #[.int .u32 1, .int .u64 1, .int .u64 0, .int .u64 0, .int .u64 0, .int .u64 0, .slice aN 1 cN], .agg #[.int .u64 p0, .int .u64 p1], .int .i64 1, .agg (ocells kd 0 cnd0 c.id).toArray] X (NextPost SS E2 X)) := Lib.hid (fun X hC => by
      have := next_any 1 cN (S1 c) aN p0 p1 1 kd 0 c.id cnd0 X hC (SD.out.nil_) rfl (by decide) cnd0_ok w_0 hp0 hp1 (S1_ok c)
      rwa [hE2, hSS] at this)
    clear hE2 hSS
    have hwt : Hid (Word c.id) := Lib.hid HOK.out.id
    have b62 := fun W => built62i kd c.id W
    cases d
    case true =>
      replace hKd : kd = 3 := by rw [← hKd]; rfl
      subst hKd
      have SK := SD.out.blk
      simp only [S1] at SK
      have s0 := SK.cell 0
      have s1 := SK.cell 1
      have s2 := SK.cell 2
      have s3 := SK.cell 3
      have s4 := SK.cell 4
      have s5 := SK.cell 5
      have s6 := SK.cell 6
      simp only [List.getElem?_cons_zero, List.getElem?_cons_succ] at s0 s1 s2 s3 s4 s5 s6
      have q0 := PD.out.cell 0
      have q1 := PD.out.cell 1
      simp only [List.getElem?_cons_zero, List.getElem?_cons_succ] at q0 q1
      have k2 := KD.out.cell 2
      rw [ocells_2] at k2
      go_upto_region 8 with fail
      go_wp2_with fail
      clear k2 s0 s1 s2 s3 s4 s5 s6 q0 q1 SK
      refine (HNX.out D SD.out.row).mono ?_
      rintro e F ⟨a2, n2, c2, rfl, hown, hlen, hB⟩
      have BF : Hid (Below w.heap.size w F) := Lib.hid (BD.out.trans (hB.mono BD.out.size))
      have KF := Lib.hid (KD.out.below hB KD.out.lt)
      have SF := Lib.hid (SD.out.keep hB)
      have OF := Lib.hid (own_mono hown BD.out.size)
      have HLEN := Lib.hid hlen
      clear hB hown hlen BD PD KD SD HNX
      have HLA := heap_alloc_last F (.cells #[.int .u32 0, .int .u64 0, .int .u64 0, .int .u64 0, .int .u64 0, .int .u64 0, .slice none 0 0] 31)
      have hz1 : (Try.prog.info? 31).map (·.size) = some (#[.int .u32 SS.ch, .int .u64 SS.rd, .int .u64 SS.m0, .int .u64 SS.m1, .int .u64 SS.t0, .int .u64 SS.t1, .slice a2 n2 c2] : Array Value).size := info31
      go_upto_region 9 with (first | (refine wpList_store_row rfl 31 (.tmp 10) (.tmp 40) rfl F.heap.size #[.int .u32 SS.ch, .int .u64 SS.rd, .int .u64 SS.m0, .int .u64 SS.m1, .int .u64 SS.t0, .int .u64 SS.t1, .slice a2 n2 c2] rfl rfl 31 _ HLA hz1 rfl rfl ?_; rw [World.setRow_alloc_new]))
      clear HLA hz1
      have hB : Below F.heap.size F (F.alloc (.cells #[.int .u32 SS.ch, .int .u64 SS.rd, .int .u64 SS.m0, .int .u64 SS.m1, .int .u64 SS.t0, .int .u64 SS.t1, .slice a2 n2 c2] 31)) := (Below.refl _ _).alloc (Nat.le_refl _) _
      have BG : Hid (Below w.heap.size w (F.alloc (.cells #[.int .u32 SS.ch, .int .u64 SS.rd, .int .u64 SS.m0, .int .u64 SS.m1, .int .u64 SS.t0, .int .u64 SS.t1, .slice a2 n2 c2] 31))) := Lib.hid (BF.out.trans (hB.mono BF.out.size))
      have KG := Lib.hid (KF.out.below hB KF.out.lt)
      have SG := Lib.hid (SF.out.keep hB)
      have TG : Hid (StAt (F.alloc (.cells #[.int .u32 SS.ch, .int .u64 SS.rd, .int .u64 SS.m0, .int .u64 SS.m1, .int .u64 SS.t0, .int .u64 SS.t1, .slice a2 n2 c2] 31)) w.heap.size F.heap.size SS a2 n2 c2) := Lib.hid ⟨Blk.new _ _ [.int .u32 SS.ch, .int .u64 SS.rd, .int .u64 SS.m0, .int .u64 SS.m1, .int .u64 SS.t0, .int .u64 SS.t1, .slice a2 n2 c2], own_keep OF.out hB, HSO.out, HLEN.out⟩
      have HGT : Hid (gs < F.heap.size ∧ gk < F.heap.size ∧ w.heap.size ≤ F.heap.size) := Lib.hid ⟨SF.out.blk.lt, KF.out.lt, BF.out.size⟩
      clear hB BF KF SF OF HLEN
      generalize (F.alloc (.cells #[.int .u32 SS.ch, .int .u64 SS.rd, .int .u64 SS.m0, .int .u64 SS.m1, .int .u64 SS.t0, .int .u64 SS.t1, .slice a2 n2 c2] 31)) = G at BG KG SG TG ⊢
      generalize F.heap.size = gt at HGT TG ⊢
      have SK := SG.out.blk
      simp only [S1] at SK
      have s0 := SK.cell 0
      have s1 := SK.cell 1
      have s2 := SK.cell 2
      have s3 := SK.cell 3
      have s4 := SK.cell 4
      have s5 := SK.cell 5
      have s6 := SK.cell 6
      simp only [List.getElem?_cons_zero, List.getElem?_cons_succ] at s0 s1 s2 s3 s4 s5 s6
      go_wp2_with fail
      clear s0 s1 s2 s3 s4 s5 s6 SK
      refine (held_any 1 1 0 0 0 0 aN 1 cN (S1 c).cs 0 G SG.out.row rfl (by decide)).mono ?_
      rw [hv, he]
      rintro e H ⟨rfl, hB⟩
      have BH : Hid (Below w.heap.size w H) := Lib.hid (BG.out.trans (hB.mono BG.out.size))
      have KH := Lib.hid (KG.out.below hB KG.out.lt)
      have SH := Lib.hid (SG.out.keep hB)
      have TH := Lib.hid (TG.out.keep hB)
      clear hB BG KG SG TG
      have SK := SH.out.blk
      simp only [S1] at SK
      have s0 := SK.cell 0
      have s1 := SK.cell 1
      have s2 := SK.cell 2
      have s3 := SK.cell 3
      have s4 := SK.cell 4
      have s5 := SK.cell 5
      have s6 := SK.cell 6
      simp only [List.getElem?_cons_zero, List.getElem?_cons_succ] at s0 s1 s2 s3 s4 s5 s6
      have k4 := KH.out.cell 4
      rw [ocells_4] at k4
      have ha : (cL c).amt = c.amt := rfl
      rw [ha] at k4
      have bam : (c.amt != c.amt) = false := by simp
      go_upto_region 12 with fail
      clear k4 ha bam s0 s1 s2 s3 s4 s5 s6 SK
      rcases HSE.out with ⟨hz, hs⟩ | ⟨hd, hz⟩
      case inr =>
        subst hz
        go_wp2_with fail
        refine (awake_any H).mono ?_
        rintro e Z ⟨rfl, hB⟩
        go_wp2
        go_ret
        exact ⟨rfl, BH.out.trans (hB.mono BH.out.size)⟩
      subst hz
      subst hs
      have hn2 : n2 = 0 := TH.out.len.symm
      subst hn2
      go_upto_region 14 with fail
      go_wp2_with fail
      refine (new_any 1 H).mono ?_
      rintro e J ⟨rfl, hB⟩
      have BJ : Hid (Below w.heap.size w J) := Lib.hid (BH.out.trans (hB.mono BH.out.size))
      have KJ := Lib.hid (KH.out.below hB KH.out.lt)
      have TJ := Lib.hid (TH.out.keep hB)
      clear hB BH KH SH TH
      have HLA := heap_alloc_last J (.cells #[.int .u32 0, .int .u64 0, .int .u64 0, .int .u64 0, .int .u64 0, .int .u64 0, .slice none 0 0] 31)
      have hz1 : (Try.prog.info? 31).map (·.size) = some (#[.int .u32 1, .int .u64 0, .int .u64 0, .int .u64 0, .int .u64 0, .int .u64 0, .slice none 0 0] : Array Value).size := info31
      go_upto_region 15 with (first | (refine wpList_store_row rfl 31 (.tmp 14) (.tmp 72) rfl J.heap.size #[.int .u32 1, .int .u64 0, .int .u64 0, .int .u64 0, .int .u64 0, .int .u64 0, .slice none 0 0] rfl rfl 31 _ HLA hz1 rfl rfl ?_; rw [World.setRow_alloc_new]))
      clear HLA hz1
      have hB : Below J.heap.size J (J.alloc (.cells #[.int .u32 1, .int .u64 0, .int .u64 0, .int .u64 0, .int .u64 0, .int .u64 0, .slice none 0 0] 31)) := (Below.refl _ _).alloc (Nat.le_refl _) _
      have BQ : Hid (Below w.heap.size w (J.alloc (.cells #[.int .u32 1, .int .u64 0, .int .u64 0, .int .u64 0, .int .u64 0, .int .u64 0, .slice none 0 0] 31))) := Lib.hid (BJ.out.trans (hB.mono BJ.out.size))
      have KQ := Lib.hid (KJ.out.below hB KJ.out.lt)
      have TQ := Lib.hid (TJ.out.keep hB)
      have NQ : Hid (Blk (J.alloc (.cells #[.int .u32 1, .int .u64 0, .int .u64 0, .int .u64 0, .int .u64 0, .int .u64 0, .slice none 0 0] 31)) J.heap.size 31 [.int .u32 1, .int .u64 0, .int .u64 0, .int .u64 0, .int .u64 0, .int .u64 0, .slice none 0 0]) := Lib.hid (Blk.new _ _ _)
      have HGQ : Hid (gt < J.heap.size ∧ gk < J.heap.size ∧ w.heap.size ≤ J.heap.size) := Lib.hid ⟨TJ.out.blk.lt, KJ.out.lt, BJ.out.size⟩
      clear hB BJ KJ TJ
      generalize (J.alloc (.cells #[.int .u32 1, .int .u64 0, .int .u64 0, .int .u64 0, .int .u64 0, .int .u64 0, .slice none 0 0] 31)) = Q at BQ KQ TQ NQ ⊢
      generalize J.heap.size = gq at HGQ NQ ⊢
      have s0 := NQ.out.cell 0
      have s1 := NQ.out.cell 1
      have s2 := NQ.out.cell 2
      have s3 := NQ.out.cell 3
      have s4 := NQ.out.cell 4
      have s5 := NQ.out.cell 5
      have s6 := NQ.out.cell 6
      simp only [List.getElem?_cons_zero, List.getElem?_cons_succ] at s0 s1 s2 s3 s4 s5 s6
      have f0 := NQ.out.frozen 0
      have f1 := NQ.out.frozen 1
      have f2 := NQ.out.frozen 2
      have f3 := NQ.out.frozen 3
      have f4 := NQ.out.frozen 4
      have f5 := NQ.out.frozen 5
      have f6 := NQ.out.frozen 6
      have k4 := KQ.out.cell 4
      rw [ocells_4] at k4
      have ha : (cL c).amt = c.amt := rfl
      rw [ha] at k4
      go_upto_region 18 with fail
      clear k4 ha s0 s1 s2 s3 s4 s5 s6 f0 f1 f2 f3 f4 f5 f6
      have hO : Q.grownBy ((Q.setCell ⟨gq, 1, none⟩ (.int .u64 2)).setCell ⟨gq, 2, none⟩ (.int .u64 c.amt)) (some gq) := (only_setCell (p := ⟨gq, 2, none⟩) (only_setCell (p := ⟨gq, 1, none⟩) (only_refl Q (some gq)) (.inl rfl) (.int .u64 2)) (.inl rfl) (.int .u64 c.amt))
      have BV : Hid (Below w.heap.size w ((Q.setCell ⟨gq, 1, none⟩ (.int .u64 2)).setCell ⟨gq, 2, none⟩ (.int .u64 c.amt))) := Lib.hid (BQ.out.grown hO BQ.out.size (fun q hq => by injection hq with hq; have := HGQ.out; omega))
      have TV : Hid (StAt ((Q.setCell ⟨gq, 1, none⟩ (.int .u64 2)).setCell ⟨gq, 2, none⟩ (.int .u64 c.amt)) w.heap.size gt (S2 true c) a2 0 c2) := Lib.hid (TQ.out.other hO (fun e => by have := HGQ.out; omega) NQ.out (by decide))
      have NV : Hid (Blk ((Q.setCell ⟨gq, 1, none⟩ (.int .u64 2)).setCell ⟨gq, 2, none⟩ (.int .u64 c.amt)) gq 31 [.int .u32 1, .int .u64 2, .int .u64 c.amt, .int .u64 0, .int .u64 0, .int .u64 0, .slice none 0 0]) := Lib.hid ((NQ.out.set_ 1 _).set_ 2 _)
      clear hO BQ KQ TQ NQ
      generalize ((Q.setCell ⟨gq, 1, none⟩ (.int .u64 2)).setCell ⟨gq, 2, none⟩ (.int .u64 c.amt)) = V at BV TV NV ⊢
      go_wp2_with fail
      refine (awake_any V).mono ?_
      rintro e U ⟨rfl, hB⟩
      have BU : Hid (Below w.heap.size w U) := Lib.hid (BV.out.trans (hB.mono BV.out.size))
      have TU := Lib.hid (TV.out.keep hB)
      have NU := Lib.hid (NV.out.below hB NV.out.lt)
      clear hB BV TV NV
      have SK := TU.out.blk
      simp only [S2, if_true, Bool.false_eq_true, if_false] at SK
      have s0 := SK.cell 0
      have s1 := SK.cell 1
      have s2 := SK.cell 2
      have s3 := SK.cell 3
      have s4 := SK.cell 4
      have s5 := SK.cell 5
      have s6 := SK.cell 6
      simp only [List.getElem?_cons_zero, List.getElem?_cons_succ] at s0 s1 s2 s3 s4 s5 s6
      have t0 := NU.out.cell 0
      have t1 := NU.out.cell 1
      have t2 := NU.out.cell 2
      have t3 := NU.out.cell 3
      have t4 := NU.out.cell 4
      have t5 := NU.out.cell 5
      have t6 := NU.out.cell 6
      simp only [List.getElem?_cons_zero, List.getElem?_cons_succ] at t0 t1 t2 t3 t4 t5 t6
      go_wp2_with fail
      clear s0 s1 s2 s3 s4 s5 s6 t0 t1 t2 t3 t4 t5 t6 SK
      refine (same_any 1 2 c.amt 0 0 0 a2 0 c2 [] 1 2 c.amt 0 0 0 none 0 0 [] U (CRow.nil _ _) rfl (by decide) (CRow.nil _ _) rfl (by decide)).mono ?_
      rintro e Z ⟨rfl, hB⟩
      have bd : decide ((⟨1, 2, c.amt, 0, 0, 0, []⟩ : St) = ⟨1, 2, c.amt, 0, 0, 0, []⟩) = true := decide_eq_true rfl
      rw [bd]
      go_wp2
      go_ret
      exact ⟨rfl, BU.out.trans (hB.mono BU.out.size)⟩
    case false =>
      replace hKd : kd = 4 := by rw [← hKd]; rfl
      subst hKd
      have SK := SD.out.blk
      simp only [S1] at SK
      have s0 := SK.cell 0
      have s1 := SK.cell 1
      have s2 := SK.cell 2
      have s3 := SK.cell 3
      have s4 := SK.cell 4
      have s5 := SK.cell 5
      have s6 := SK.cell 6
      simp only [List.getElem?_cons_zero, List.getElem?_cons_succ] at s0 s1 s2 s3 s4 s5 s6
      have q0 := PD.out.cell 0
      have q1 := PD.out.cell 1
      simp only [List.getElem?_cons_zero, List.getElem?_cons_succ] at q0 q1
      have k2 := KD.out.cell 2
      rw [ocells_2] at k2
      go_upto_region 8 with fail
      go_wp2_with fail
      clear k2 s0 s1 s2 s3 s4 s5 s6 q0 q1 SK
      refine (HNX.out D SD.out.row).mono ?_
      rintro e F ⟨a2, n2, c2, rfl, hown, hlen, hB⟩
      have BF : Hid (Below w.heap.size w F) := Lib.hid (BD.out.trans (hB.mono BD.out.size))
      have KF := Lib.hid (KD.out.below hB KD.out.lt)
      have SF := Lib.hid (SD.out.keep hB)
      have OF := Lib.hid (own_mono hown BD.out.size)
      have HLEN := Lib.hid hlen
      clear hB hown hlen BD PD KD SD HNX
      have HLA := heap_alloc_last F (.cells #[.int .u32 0, .int .u64 0, .int .u64 0, .int .u64 0, .int .u64 0, .int .u64 0, .slice none 0 0] 31)
      have hz1 : (Try.prog.info? 31).map (·.size) = some (#[.int .u32 SS.ch, .int .u64 SS.rd, .int .u64 SS.m0, .int .u64 SS.m1, .int .u64 SS.t0, .int .u64 SS.t1, .slice a2 n2 c2] : Array Value).size := info31
      go_upto_region 9 with (first | (refine wpList_store_row rfl 31 (.tmp 10) (.tmp 40) rfl F.heap.size #[.int .u32 SS.ch, .int .u64 SS.rd, .int .u64 SS.m0, .int .u64 SS.m1, .int .u64 SS.t0, .int .u64 SS.t1, .slice a2 n2 c2] rfl rfl 31 _ HLA hz1 rfl rfl ?_; rw [World.setRow_alloc_new]))
      clear HLA hz1
      have hB : Below F.heap.size F (F.alloc (.cells #[.int .u32 SS.ch, .int .u64 SS.rd, .int .u64 SS.m0, .int .u64 SS.m1, .int .u64 SS.t0, .int .u64 SS.t1, .slice a2 n2 c2] 31)) := (Below.refl _ _).alloc (Nat.le_refl _) _
      have BG : Hid (Below w.heap.size w (F.alloc (.cells #[.int .u32 SS.ch, .int .u64 SS.rd, .int .u64 SS.m0, .int .u64 SS.m1, .int .u64 SS.t0, .int .u64 SS.t1, .slice a2 n2 c2] 31))) := Lib.hid (BF.out.trans (hB.mono BF.out.size))
      have KG := Lib.hid (KF.out.below hB KF.out.lt)
      have SG := Lib.hid (SF.out.keep hB)
      have TG : Hid (StAt (F.alloc (.cells #[.int .u32 SS.ch, .int .u64 SS.rd, .int .u64 SS.m0, .int .u64 SS.m1, .int .u64 SS.t0, .int .u64 SS.t1, .slice a2 n2 c2] 31)) w.heap.size F.heap.size SS a2 n2 c2) := Lib.hid ⟨Blk.new _ _ [.int .u32 SS.ch, .int .u64 SS.rd, .int .u64 SS.m0, .int .u64 SS.m1, .int .u64 SS.t0, .int .u64 SS.t1, .slice a2 n2 c2], own_keep OF.out hB, HSO.out, HLEN.out⟩
      have HGT : Hid (gs < F.heap.size ∧ gk < F.heap.size ∧ w.heap.size ≤ F.heap.size) := Lib.hid ⟨SF.out.blk.lt, KF.out.lt, BF.out.size⟩
      clear hB BF KF SF OF HLEN
      generalize (F.alloc (.cells #[.int .u32 SS.ch, .int .u64 SS.rd, .int .u64 SS.m0, .int .u64 SS.m1, .int .u64 SS.t0, .int .u64 SS.t1, .slice a2 n2 c2] 31)) = G at BG KG SG TG ⊢
      generalize F.heap.size = gt at HGT TG ⊢
      have SK := SG.out.blk
      simp only [S1] at SK
      have s0 := SK.cell 0
      have s1 := SK.cell 1
      have s2 := SK.cell 2
      have s3 := SK.cell 3
      have s4 := SK.cell 4
      have s5 := SK.cell 5
      have s6 := SK.cell 6
      simp only [List.getElem?_cons_zero, List.getElem?_cons_succ] at s0 s1 s2 s3 s4 s5 s6
      go_wp2_with fail
      clear s0 s1 s2 s3 s4 s5 s6 SK
      refine (held_any 1 1 0 0 0 0 aN 1 cN (S1 c).cs 0 G SG.out.row rfl (by decide)).mono ?_
      rw [hv, he]
      rintro e H ⟨rfl, hB⟩
      have BH : Hid (Below w.heap.size w H) := Lib.hid (BG.out.trans (hB.mono BG.out.size))
      have KH := Lib.hid (KG.out.below hB KG.out.lt)
      have SH := Lib.hid (SG.out.keep hB)
      have TH := Lib.hid (TG.out.keep hB)
      clear hB BG KG SG TG
      have SK := SH.out.blk
      simp only [S1] at SK
      have s0 := SK.cell 0
      have s1 := SK.cell 1
      have s2 := SK.cell 2
      have s3 := SK.cell 3
      have s4 := SK.cell 4
      have s5 := SK.cell 5
      have s6 := SK.cell 6
      simp only [List.getElem?_cons_zero, List.getElem?_cons_succ] at s0 s1 s2 s3 s4 s5 s6
      have k4 := KH.out.cell 4
      rw [ocells_4] at k4
      have ha : (cL c).amt = c.amt := rfl
      rw [ha] at k4
      have bam : (c.amt != c.amt) = false := by simp
      go_upto_region 12 with fail
      clear k4 ha bam s0 s1 s2 s3 s4 s5 s6 SK
      rcases HSE.out with ⟨hz, hs⟩ | ⟨hd, hz⟩
      case inr =>
        cases hd
      subst hz
      subst hs
      have hn2 : n2 = 0 := TH.out.len.symm
      subst hn2
      go_upto_region 14 with fail
      go_wp2_with fail
      refine (new_any 1 H).mono ?_
      rintro e J ⟨rfl, hB⟩
      have BJ : Hid (Below w.heap.size w J) := Lib.hid (BH.out.trans (hB.mono BH.out.size))
      have KJ := Lib.hid (KH.out.below hB KH.out.lt)
      have TJ := Lib.hid (TH.out.keep hB)
      clear hB BH KH SH TH
      have HLA := heap_alloc_last J (.cells #[.int .u32 0, .int .u64 0, .int .u64 0, .int .u64 0, .int .u64 0, .int .u64 0, .slice none 0 0] 31)
      have hz1 : (Try.prog.info? 31).map (·.size) = some (#[.int .u32 1, .int .u64 0, .int .u64 0, .int .u64 0, .int .u64 0, .int .u64 0, .slice none 0 0] : Array Value).size := info31
      go_upto_region 15 with (first | (refine wpList_store_row rfl 31 (.tmp 14) (.tmp 72) rfl J.heap.size #[.int .u32 1, .int .u64 0, .int .u64 0, .int .u64 0, .int .u64 0, .int .u64 0, .slice none 0 0] rfl rfl 31 _ HLA hz1 rfl rfl ?_; rw [World.setRow_alloc_new]))
      clear HLA hz1
      have hB : Below J.heap.size J (J.alloc (.cells #[.int .u32 1, .int .u64 0, .int .u64 0, .int .u64 0, .int .u64 0, .int .u64 0, .slice none 0 0] 31)) := (Below.refl _ _).alloc (Nat.le_refl _) _
      have BQ : Hid (Below w.heap.size w (J.alloc (.cells #[.int .u32 1, .int .u64 0, .int .u64 0, .int .u64 0, .int .u64 0, .int .u64 0, .slice none 0 0] 31))) := Lib.hid (BJ.out.trans (hB.mono BJ.out.size))
      have KQ := Lib.hid (KJ.out.below hB KJ.out.lt)
      have TQ := Lib.hid (TJ.out.keep hB)
      have NQ : Hid (Blk (J.alloc (.cells #[.int .u32 1, .int .u64 0, .int .u64 0, .int .u64 0, .int .u64 0, .int .u64 0, .slice none 0 0] 31)) J.heap.size 31 [.int .u32 1, .int .u64 0, .int .u64 0, .int .u64 0, .int .u64 0, .int .u64 0, .slice none 0 0]) := Lib.hid (Blk.new _ _ _)
      have HGQ : Hid (gt < J.heap.size ∧ gk < J.heap.size ∧ w.heap.size ≤ J.heap.size) := Lib.hid ⟨TJ.out.blk.lt, KJ.out.lt, BJ.out.size⟩
      clear hB BJ KJ TJ
      generalize (J.alloc (.cells #[.int .u32 1, .int .u64 0, .int .u64 0, .int .u64 0, .int .u64 0, .int .u64 0, .slice none 0 0] 31)) = Q at BQ KQ TQ NQ ⊢
      generalize J.heap.size = gq at HGQ NQ ⊢
      have s0 := NQ.out.cell 0
      have s1 := NQ.out.cell 1
      have s2 := NQ.out.cell 2
      have s3 := NQ.out.cell 3
      have s4 := NQ.out.cell 4
      have s5 := NQ.out.cell 5
      have s6 := NQ.out.cell 6
      simp only [List.getElem?_cons_zero, List.getElem?_cons_succ] at s0 s1 s2 s3 s4 s5 s6
      have f0 := NQ.out.frozen 0
      have f1 := NQ.out.frozen 1
      have f2 := NQ.out.frozen 2
      have f3 := NQ.out.frozen 3
      have f4 := NQ.out.frozen 4
      have f5 := NQ.out.frozen 5
      have f6 := NQ.out.frozen 6
      have k4 := KQ.out.cell 4
      rw [ocells_4] at k4
      have ha : (cL c).amt = c.amt := rfl
      rw [ha] at k4
      go_upto_region 18 with fail
      clear k4 ha s0 s1 s2 s3 s4 s5 s6 f0 f1 f2 f3 f4 f5 f6
      have hO : Q.grownBy (Q.setCell ⟨gq, 1, none⟩ (.int .u64 2)) (some gq) := (only_setCell (p := ⟨gq, 1, none⟩) (only_refl Q (some gq)) (.inl rfl) (.int .u64 2))
      have BV : Hid (Below w.heap.size w (Q.setCell ⟨gq, 1, none⟩ (.int .u64 2))) := Lib.hid (BQ.out.grown hO BQ.out.size (fun q hq => by injection hq with hq; have := HGQ.out; omega))
      have TV : Hid (StAt (Q.setCell ⟨gq, 1, none⟩ (.int .u64 2)) w.heap.size gt (S2 false c) a2 0 c2) := Lib.hid (TQ.out.other hO (fun e => by have := HGQ.out; omega) NQ.out (by decide))
      have NV : Hid (Blk (Q.setCell ⟨gq, 1, none⟩ (.int .u64 2)) gq 31 [.int .u32 1, .int .u64 2, .int .u64 0, .int .u64 0, .int .u64 0, .int .u64 0, .slice none 0 0]) := Lib.hid (NQ.out.set_ 1 _)
      clear hO BQ KQ TQ NQ
      generalize (Q.setCell ⟨gq, 1, none⟩ (.int .u64 2)) = V at BV TV NV ⊢
      go_wp2_with fail
      refine (awake_any V).mono ?_
      rintro e U ⟨rfl, hB⟩
      have BU : Hid (Below w.heap.size w U) := Lib.hid (BV.out.trans (hB.mono BV.out.size))
      have TU := Lib.hid (TV.out.keep hB)
      have NU := Lib.hid (NV.out.below hB NV.out.lt)
      clear hB BV TV NV
      have SK := TU.out.blk
      simp only [S2, if_true, Bool.false_eq_true, if_false] at SK
      have s0 := SK.cell 0
      have s1 := SK.cell 1
      have s2 := SK.cell 2
      have s3 := SK.cell 3
      have s4 := SK.cell 4
      have s5 := SK.cell 5
      have s6 := SK.cell 6
      simp only [List.getElem?_cons_zero, List.getElem?_cons_succ] at s0 s1 s2 s3 s4 s5 s6
      have t0 := NU.out.cell 0
      have t1 := NU.out.cell 1
      have t2 := NU.out.cell 2
      have t3 := NU.out.cell 3
      have t4 := NU.out.cell 4
      have t5 := NU.out.cell 5
      have t6 := NU.out.cell 6
      simp only [List.getElem?_cons_zero, List.getElem?_cons_succ] at t0 t1 t2 t3 t4 t5 t6
      go_wp2_with fail
      clear s0 s1 s2 s3 s4 s5 s6 t0 t1 t2 t3 t4 t5 t6 SK
      refine (same_any 1 2 0 0 0 0 a2 0 c2 [] 1 2 0 0 0 0 none 0 0 [] U (CRow.nil _ _) rfl (by decide) (CRow.nil _ _) rfl (by decide)).mono ?_
      rintro e Z ⟨rfl, hB⟩
      have bd : decide ((⟨1, 2, 0, 0, 0, 0, []⟩ : St) = ⟨1, 2, 0, 0, 0, 0, []⟩) = true := decide_eq_true rfl
      rw [bd]
      go_wp2
      go_ret
      exact ⟨rfl, BU.out.trans (hB.mono BU.out.size)⟩
set_option maxRecDepth 100000 in
theorem lifted (os : Os) (started : os.Started) (H : Type) (enc : TypeId × Value → H) :
    ReturnsInHanded {} Try.checked os 8 .any (Rows.pactLocksSpec.pre6 enc Try.prog Try.f8 Rows.pactLocksRow.domain false) (Rows.pactLocksSpec.post enc Try.prog Try.f8 false true false false) := by
  refine returnsInHanded_of_change (C := Try.checked) own started (by kernel_rfl) Try.func8
    (ChangeSpec.witness6 (enc := enc) (C := Try.checked) false ⟨#[], #[.agg #[.int .u64 0, .int .u64 0], .agg #[.int .i64 0, .int .u64 0, .int .u64 0, .int .i64 0, .int .u64 0, .int .u8 0, .int .u8 0, .int .u8 0, .int .u8 0, .int .u8 0, .int .u8 0, .int .u8 0, .int .u8 0, .int .u8 0, .int .u8 0, .int .u8 0, .int .u8 0, .int .u8 0, .int .u8 0, .int .u8 0, .int .u8 0, .int .u8 0, .int .u8 0, .int .u8 0, .int .u8 0, .int .u8 0, .int .u8 0, .int .u8 0, .int .u8 0, .int .u8 0, .int .u8 0, .int .u8 0, .int .u8 0, .int .u8 0, .int .u8 0, .int .u8 0, .int .u8 0, .int .u64 0, .int .u64 0], .bool false], []⟩ 8 (by kernel_rfl) (by kernel_rfl) (by kernel_rfl) (by kernel_rfl)) ?_
  intro W base args ds gs before hval0 hW hcnd _
  have hval : ∀ (j : Nat) t v, Try.f8.params[j]? = some t → args[j]? = some v → Value.okWide Try.prog W .any base t v := hval0
  have hW' := hW
  obtain ⟨p, q, hA0, hV, rfl, hfz, hnd⟩ := hW
  have hA : DataW.TrodAll enc Try.prog W 0 (fun _ => true) true Try.f8.params.toList args.toList ds p := hA0
  rw [Try.params8] at hA hval
  obtain ⟨v0, vs0, dd0, ds0, p0, q0, hargs, rfl, rfl, h0, r0⟩ := trodAll_cons hA
  obtain ⟨v1, vs1, dd1, ds1, p1, q1, rfl, rfl, rfl, h1, r1⟩ := trodAll_cons r0
  obtain ⟨v2, vs2, dd2, ds2, p2, q2, rfl, rfl, rfl, h2, r2⟩ := trodAll_cons r1
  obtain ⟨rfl, rfl, rfl⟩ := trodAll_nil r2
  obtain rfl : args = #[v0, v1, v2] := by cases args; simp_all
  obtain ⟨rfl, rfl⟩ := trodVars_none hV
  have kk0 := h0
  have lt0 : ∀ x ∈ p0, x.block < W.heap.size := by obtain ⟨m, hm⟩ := kk0; exact DataW.trod_lt m _ _ _ hm
  obtain ⟨x0, y0, rfl, hx0, hy0⟩ := openPut (hval 0 24 v0 rfl rfl) h0
  have kk1 := h1
  have lt1 : ∀ x ∈ p1, x.block < W.heap.size := by obtain ⟨m, hm⟩ := kk1; exact DataW.trod_lt m _ _ _ hm
  obtain ⟨k1, am1, c1, id1, rfl, hc1, ham1, hid1⟩ := openOp (hval 1 55 v1 rfl rfl) h1
  obtain ⟨b2, rfl, rfl, rfl⟩ := open_bool Try.underlying4 (hval 2 4 v2 rfl rfl) h2
  clear hA0 hval0
  refine Calls.mono (R := (fun e W1 => e = .returned (.bool true) ∧ Below W.heap.size W W1)) ?_ fun e W1 ⟨he, bel⟩ => ?_
  · skip
    exact walk x0 y0 k1 am1 id1 c1 b2 W hx0 hy0 hc1 ham1 hid1
  subst he
  exact ⟨_, rfl, _, _, _, [], _, [], hW', trodAll_mk1 (shut_bool Try.underlying4 _), (trodAll_cons_mk (Below.trod laidOut (by kernel_rfl) (of_decide_eq_true (by kernel_rfl)) kk0 bel lt0) (trodAll_cons_mk (Below.trod laidOut (by kernel_rfl) (of_decide_eq_true (by kernel_rfl)) kk1 bel lt1) (trodAll_cons_mk (shut_bool Try.underlying4 b2) trodAll_mk0))), rfl, bel.frame _, fun h => by cases h⟩

theorem proved : Rows.PactLocksSaid :=
  OpenClaim.holds_of_wide 8 Try.f8 rfl rfl rfl rfl rfl rfl rfl ⟨rfl, rfl, rfl, rfl, rfl⟩ rfl rfl rfl rfl rfl (by kernel_rfl) Try.func8 (by kernel_rfl)
    (of_decide_eq_true (by kernel_rfl)) (by unfold Func.isWrapper; first | (rw [if_pos (by decide +kernel)]; kernel_rfl) | (rw [if_neg (by decide +kernel)]; exact ⟨rfl, rfl⟩))
    (fun os started H enc _ => lifted os started H enc)
#print axioms proved
end Go.Proofs.Ytkiifjkcpangfaa.pactLocks
