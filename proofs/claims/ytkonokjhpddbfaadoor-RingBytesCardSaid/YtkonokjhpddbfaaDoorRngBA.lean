/-
  A ring's signature as bytes: Lay (function 60).
-/
import Derived.Test.YtkonokjhpddbfaaDoorRngX
import Derived.Test.YtkonokjhpddbfaaDoorGG
namespace Go.Proofs.YtkonokjhpddbfaaDoor
open Go.RowKit
set_option linter.unusedVariables false

theorem src_one {w : World} {g m : Nat} (h : Blk w g 5 [.int .u8 (m : Int)]) : Oct.Src w (some ⟨g, 0, none⟩) 1 (ints [m]) :=
  ⟨(by intro e; cases e), .inr ⟨g, 0, rfl, h.lt, fun i hi => by
    have hi0 : i = 0 := by simp [ints] at hi; omega
    subst hi0
    rw [h.cell]
    rfl⟩⟩
theorem below_grown {w X Y : World} {r : Option Nat} (hB : Below w.heap.size w X) (hg : X.grownBy Y r) : w.grownBy Y r :=
  ⟨hg.os.trans hB.os, hg.tape.trans hB.tape, hg.output.trans hB.output, Nat.le_trans hB.size hg.size, fun i hi hn => (hg.block i (Nat.lt_of_lt_of_le hi hB.size) hn).trans (hB.block i hi)⟩
theorem lies_up {w X : World} {v v' : Value} (hB : Below w.heap.size w X) (h : Oct.Lies X v v') : Oct.Lies w v v' := by
  rcases h with h1 | ⟨g, h1, h2⟩
  · exact .inl h1
  · exact .inr ⟨g, Nat.le_trans hB.size h1, h2⟩
theorem digs_way {w : World} {A : Option Addr} {m c : Nat} {q : Nat → List Nat} (hq : ∀ a, (q a).length = 32) (h : WayR w (.slice A m c) q m) : Oct.Digs w A ((List.range m).map fun i => ints (q i)) := by
  refine ⟨?_, fun d hd => ?_⟩
  · obtain ⟨A', c', e, h1⟩ := h
    injection e with e1 e2 e3
    subst e1
    rcases h1 with h1 | ⟨g, o, hA, hg, hc⟩
    · exact .inl (by rw [h1]; rfl)
    · refine .inr ⟨g, o, hA, hg, fun i hi => ?_⟩
      have hi' : i < m := by simpa using hi
      have e5 : ((List.range m).map fun i => ints (q i)).getD i [] = ints (q i) := by
        rw [List.getD_eq_getElem?_getD, List.getElem?_map, List.getElem?_range hi']
        rfl
      rw [e5, byt_ints]
      exact hc i hi'
  · obtain ⟨i, _, rfl⟩ := List.mem_map.1 hd
    rw [ints_length, hq]
theorem digs_rows (q : Nat → List Nat) : ∀ m, Oct.digs ((List.range m).map fun i => ints (q i)) = ints (rows q m)
  | 0 => rfl
  | m + 1 => by
    rw [List.range_succ, List.map_append, rows_succ, ← ints_append, ← digs_rows q m]
    simp [Oct.digs]
/-- A ring's signature as bytes. -/
def rlayN (S : List Nat) (key : Nat) (q : Nat → List Nat) (m : Nat) : List Nat := four key ++ [m] ++ layN S ++ rows q m
theorem rlayN_length (S : List Nat) (key : Nat) (q : Nat → List Nat) (m : Nat) (hS : S.length = 1024) (hq : ∀ a, (q a).length = 32) : (rlayN S key q m).length = 1029 + 32 * m := by
  unfold rlayN
  rw [List.length_append, List.length_append, List.length_append, rows_length hq]
  have h : (layN S).length = 1024 := by
    unfold layN
    rw [rows_length' (m := 32) 32 (fun a ha => by simp [pcs, hS]; omega)]
  simp [four]
  omega
set_option maxRecDepth 100000 in
set_option maxHeartbeats 4000000 in
theorem ringlay_any (S : List Nat) (key m : Nat) (A : Option Addr) (c : Nat) (q : Nat → List Nat) (v : Value) (base : Nat) (xs : List Nat) (w : World) (HSL : Hid (S.length = 1024)) (HSP : Hid (∀ x ∈ S, x < 256)) (hk : key < 4294967296) (hm : m ≤ 8) (HQ : Hid (∀ a, (q a).length = 32)) (HQP : Hid (∀ a, ∀ x ∈ q a, x < 256))
    (HY : Hid (WayR w (.slice A m c) q m)) (HO : Hid (Oct.Own w base v (ints xs))) (hbase : base ≤ w.heap.size) (hxs : xs.length ≤ 100000) :
    Calls Tryd.prog 60 #[.agg (rsg S key (.slice A m c)).toArray, v] w fun e w' => ∃ v', e = .returned v' ∧ Oct.Own w' base v' (ints (xs ++ rlayN S key q m)) ∧ w.grownBy w' v.ownBlock ∧ Oct.Lies w v v' := by
  have k1 : (key : Int) ≤ 4294967295 := by omega
  have m1 : (m : Int) ≤ 8 := by omega
  have hmw : IntKind.u8.wrap (m : Int) = (m : Int) := by rw [IntKind.wrap_u8]; omega
  go_enter Tryd.func60, Tryd.ntmps60
  go_upto_region 1 with fail
  have XV : Hid (Blk (w.alloc (.cells (rsg S key (.slice A m c)).toArray 94)) w.heap.size 94 (rsg S key (.slice A m c))) := Lib.hid (by
    have h := Blk.new w 94 (rsg S key (.slice A m c))
    exact h)
  have BV : Hid (Below w.heap.size w (w.alloc (.cells (rsg S key (.slice A m c)).toArray 94))) := Lib.hid ((Below.refl _ _).alloc (Nat.le_refl _) _)
  generalize (w.alloc (.cells (rsg S key (.slice A m c)).toArray 94)) = V at XV BV ⊢
  have hv : w.heap.size < V.heap.size := XV.out.lt
  have HIS : Hid ((Tryd.prog.info? 56).map (·.size) = some (w8 S).length) := Lib.hid (by rw [w8_length, HSL.out]; exact info56)
  have HLL : (layN S).length = 1024 := by
    have h := rlayN_length S 0 q 0 HSL.out HQ.out
    unfold rlayN at h
    simp [four, rows] at h
    omega
  have HSUM : Hid (∀ (X : World) (u : Value), Oct.Own X V.heap.size u (ints (four key ++ [m] ++ layN S)) → Below V.heap.size V X → Calls Tryd.prog 74 #[u, .slice A m c] X (Oct.Laid X V.heap.size u (ints (rlayN S key q m)))) := Lib.hid fun X u hu hb => by
    have h := Oct.outsum_any u A c V.heap.size (ints (four key ++ [m] ++ layN S)) ((List.range m).map fun i => ints (q i)) X hu (digs_way HQ.out ((HY.out.below BV.out).below hb)) (by rw [ints_length, List.length_map, List.length_range, List.length_append, List.length_append, HLL]; simp [four]; omega) hb.size
    rw [List.length_map, List.length_range, digs_rows, ints_append] at h
    exact h
  have EV : Hid (Below V.heap.size V V) := Lib.hid (Below.refl _ _)
  have hBz : Below V.heap.size V V.drew := below_drewN (Below.refl _ _) 1
  have XX0 : Hid (Blk V.drew w.heap.size 94 (rsg S key (.slice A m c))) := Lib.hid (XV.out.below hBz XV.out.lt)
  have EX0 : Hid (Below V.heap.size V V.drew) := Lib.hid (EV.out.trans (hBz.mono EV.out.size))
  clear hBz
  refine wp_region_held_drew (S := fun w' => Blk w' w.heap.size 94 (rsg S key (.slice A m c))) (by kernel_rfl) (XX0.out) (fun hHeld => ?_)
  generalize V.drew = X0 at hHeld XX0 EX0 ⊢
  refine wpAnyH_take (i := 1) (v := .pointer (some ⟨w.heap.size, 1024, none⟩)) rfl (by kernel_rfl) (by kernel_rfl) (by kernel_rfl) (fun _ _ _ h => h) (Or.inl ⟨by rfl, by intro w' h; go_simp⟩) hHeld ?_
  show wpAnyH _ _ _ _ _ _ _ (Act.put _ (some 7) _) _
  simp only [Act.put, List.setIfInBounds_toArray, List.set_cons_zero, List.set_cons_succ]
  refine wpAnyH_take (i := 2) (v := .int .u32 (key : Int)) rfl (by kernel_rfl) (by kernel_rfl) (by kernel_rfl) (fun _ _ _ h => h) (Or.inl ⟨by rfl, by intro w' h; have q9 := Blk.cell h 1024; rw [rsg_key _ _ _ HSL.out] at q9; go_simp⟩) hHeld ?_
  show wpAnyH _ _ _ _ _ _ _ (Act.put _ (some 8) _) _
  simp only [Act.put, List.setIfInBounds_toArray, List.set_cons_zero, List.set_cons_succ]
  refine wpAnyH_take (i := 5) (v := .pointer (some ⟨w.heap.size, 1025, none⟩)) rfl (by kernel_rfl) (by kernel_rfl) (by kernel_rfl) (fun _ _ _ h => h) (Or.inl ⟨by rfl, by intro w' h; go_simp⟩) hHeld ?_
  show wpAnyH _ _ _ _ _ _ _ (Act.put _ (some 11) _) _
  simp only [Act.put, List.setIfInBounds_toArray, List.set_cons_zero, List.set_cons_succ]
  refine wpAnyH_take (i := 6) (v := .slice A m c) rfl (by kernel_rfl) (by kernel_rfl) (by kernel_rfl) (fun _ _ _ h => h) (Or.inl ⟨by rfl, by intro w' h; have q9 := Blk.cell h 1025; rw [rsg_way _ _ _ HSL.out] at q9; go_simp⟩) hHeld ?_
  show wpAnyH _ _ _ _ _ _ _ (Act.put _ (some 12) _) _
  simp only [Act.put, List.setIfInBounds_toArray, List.set_cons_zero, List.set_cons_succ]
  refine wpAnyH_take (i := 7) (v := .int .i64 (m : Int)) rfl (by kernel_rfl) (by kernel_rfl) (by kernel_rfl) (fun _ _ _ h => h) (Or.inl ⟨by rfl, by intro w' h; go_simp⟩) hHeld ?_
  show wpAnyH _ _ _ _ _ _ _ (Act.put _ (some 13) _) _
  simp only [Act.put, List.setIfInBounds_toArray, List.set_cons_zero, List.set_cons_succ]
  refine wpAnyH_take (i := 8) (v := .int .u8 (m : Int)) rfl (by kernel_rfl) (by kernel_rfl) (by kernel_rfl) (fun _ _ _ h => h) (Or.inl ⟨by rfl, by intro w' h; go_simp; first | done | exact hmw⟩) hHeld ?_
  show wpAnyH _ _ _ _ _ _ _ (Act.put _ (some 14) _) _
  simp only [Act.put, List.setIfInBounds_toArray, List.set_cons_zero, List.set_cons_succ]
  refine wpAnyH_ready (rs := [0, 3, 9]) (by kernel_rfl) (by simp) ?_
  refine AllReadyH.cons rfl (fun K hK => ?_) (AllReadyH.cons rfl (fun K hK => ?_) (AllReadyH.cons rfl (fun K hK => ?_) AllReadyH.nil))
  · refine Kt.step_lay rfl 71 0 #[] rfl #[] (by simp) (.slice (some ⟨X0.heap.size, 0, none⟩) 0 0) (X0.alloc (.cells #[] 5)) (by kernel_rfl) ?_
    have hB : Below X0.heap.size X0 (X0.alloc (.cells #[] 5)) := (Below.refl _ _).alloc (Nat.le_refl _) _
    have hP : Oct.Own (X0.alloc (.cells #[] 5)) V.heap.size (.slice (some ⟨X0.heap.size, 0, none⟩) 0 0) [] := own_mono (Own.none_ X0) EX0.out.size
    generalize X0.alloc (.cells #[] 5) = X1 at hB hP ⊢
    obtain ⟨g6, hg6⟩ : ∃ q, X0.heap.size = q := ⟨_, rfl⟩
    rw [hg6] at hP ⊢
    clear hg6
    have XX1 : Hid (Blk X1 w.heap.size 94 (rsg S key (.slice A m c))) := Lib.hid (XX0.out.below hB XX0.out.lt)
    have EX1 : Hid (Below V.heap.size V X1) := Lib.hid (EX0.out.trans (hB.mono EX0.out.size))
    have PX1 : Hid (Oct.Own X1 V.heap.size (.slice (some ⟨g6, 0, none⟩) 0 0) []) := Lib.hid (hP)
    clear XX0 EX0 hB hP
    refine hK.out _ _ (XX1.out) (fun hHeld => ?_)
    clear hK K
    show wpAnyH _ _ _ _ _ _ _ (Act.put _ (some 6) _) _
    simp only [Act.put, List.setIfInBounds_toArray, List.set_cons_zero, List.set_cons_succ]
    refine wpAnyH_ready (rs := [3, 9]) (by kernel_rfl) (by simp) ?_
    refine AllReadyH.cons rfl (fun K hK => ?_) (AllReadyH.cons rfl (fun K hK => ?_) AllReadyH.nil)
    · refine Kt.step_lay rfl 82 1 #[(0, .tmp 8)] rfl #[(0, .int .u32 (key : Int))] (by simp [Act.eval]) (.slice (some ⟨X1.heap.size, 0, none⟩) 1 1) (X1.alloc (.cells #[.int .u32 (key : Int)] 38)) (by kernel_rfl) ?_
      have hB : Below X1.heap.size X1 (X1.alloc (.cells #[.int .u32 (key : Int)] 38)) := (Below.refl _ _).alloc (Nat.le_refl _) _
      have hK9 := Oct.Rd.lit .u32 38 X1 #[.int .u32 (key : Int)] [(key : Int)] rfl
      generalize X1.alloc (.cells #[.int .u32 (key : Int)] 38) = X2 at hB hK9 ⊢
      generalize X1.heap.size = g9 at hK9 ⊢
      have XX2 : Hid (Blk X2 w.heap.size 94 (rsg S key (.slice A m c))) := Lib.hid (XX1.out.below hB XX1.out.lt)
      have EX2 : Hid (Below V.heap.size V X2) := Lib.hid (EX1.out.trans (hB.mono EX1.out.size))
      have PX2 : Hid (Oct.Own X2 V.heap.size (.slice (some ⟨g6, 0, none⟩) 0 0) []) := Lib.hid (own_keepB PX1.out hB)
      have KX2 : Hid (Oct.Rd .u32 X2 (some ⟨g9, 0, none⟩) [(key : Int)]) := Lib.hid (hK9)
      clear XX1 EX1 PX1 hB hK9
      refine hK.out _ _ (XX2.out) (fun hHeld => ?_)
      clear hK K
      show wpAnyH _ _ _ _ _ _ _ (Act.put _ (some 9) _) _
      simp only [Act.put, List.setIfInBounds_toArray, List.set_cons_zero, List.set_cons_succ]
      refine wpAnyH_ready (rs := [4, 9]) (by kernel_rfl) (by simp) ?_
      refine AllReadyH.cons rfl (fun K hK => ?_) (AllReadyH.cons rfl (fun K hK => ?_) AllReadyH.nil)
      · refine step_call rfl 87 #[.tmp 6, .tmp 9] #[71, 82] rfl #[.slice (some ⟨g6, 0, none⟩) 0 0, .slice (some ⟨g9, 0, none⟩) 1 1] (by simp [Act.eval]) (by go_simp) (Oct.four_any (.slice (some ⟨g6, 0, none⟩) 0 0) (some ⟨g9, 0, none⟩) 1 V.heap.size [] [(key : Int)] X2 PX2.out KX2.out (by intro x hx; simp at hx; omega) (by simp) EX2.out.size) ?_
        rintro e X3 ⟨v10, rfl, hP, hG, hL⟩
        have hE2 : Below V.heap.size X2 X3 := Oct.grown_below hG EX2.out.size (fun g hg => (World.ownsRow.lt PX2.out g hg).1)
        have EX3 := Lib.hid (EX2.out.trans hE2)
        have XX3 := Lib.hid (XX2.out.below hE2 hv)
        rw [List.nil_append, ints_four] at hP
        have PX3 := Lib.hid hP
        clear hP hG hL hE2 PX2 EX2 XX2 KX2
        refine ⟨_, rfl, ?_⟩
        refine hK.out _ _ (XX3.out) (fun hHeld => ?_)
        clear hK K
        show wpAnyH _ _ _ _ _ _ _ (Act.put _ (some 10) _) _
        simp only [Act.put, List.setIfInBounds_toArray, List.set_cons_zero, List.set_cons_succ]
        refine wpAnyH_ready (rs := [9]) (by kernel_rfl) (by simp) ?_
        refine AllReadyH.cons rfl (fun K hK => ?_) AllReadyH.nil
        refine Kt.step_lay rfl 30 1 #[(0, .tmp 14)] rfl #[(0, .int .u8 (m : Int))] (by simp [Act.eval]) (.slice (some ⟨X3.heap.size, 0, none⟩) 1 1) (X3.alloc (.cells #[.int .u8 (m : Int)] 5)) (by kernel_rfl) ?_
        have hB : Below X3.heap.size X3 (X3.alloc (.cells #[.int .u8 (m : Int)] 5)) := (Below.refl _ _).alloc (Nat.le_refl _) _
        have hM := Blk.new X3 5 [.int .u8 (m : Int)]
        generalize X3.alloc (.cells #[.int .u8 (m : Int)] 5) = X4 at hB hM ⊢
        obtain ⟨g15, hg15⟩ : ∃ q, X3.heap.size = q := ⟨_, rfl⟩
        rw [hg15] at hM ⊢
        clear hg15
        have XX4 : Hid (Blk X4 w.heap.size 94 (rsg S key (.slice A m c))) := Lib.hid (XX3.out.below hB XX3.out.lt)
        have EX4 : Hid (Below V.heap.size V X4) := Lib.hid (EX3.out.trans (hB.mono EX3.out.size))
        have PX4 : Hid (Oct.Own X4 V.heap.size v10 (ints (four key))) := Lib.hid (own_keepB PX3.out hB)
        have MX4 : Hid (Blk X4 g15 5 [.int .u8 (m : Int)]) := Lib.hid (hM)
        clear XX3 EX3 PX3 hB hM
        refine hK.out _ _ (XX4.out) (fun hHeld => ?_)
        clear hK K
        show wpAnyH _ _ _ _ _ _ _ (Act.put _ (some 15) _) _
        simp only [Act.put, List.setIfInBounds_toArray, List.set_cons_zero, List.set_cons_succ]
        refine wpAnyH_ready (rs := [10]) (by kernel_rfl) (by simp) ?_
        refine AllReadyH.cons rfl (fun K hK => ?_) AllReadyH.nil
        refine step_call rfl 88 #[.tmp 10, .tmp 15] #[71, 30] rfl #[v10, .slice (some ⟨g15, 0, none⟩) 1 1] (by simp [Act.eval]) (by go_simp) (Oct.one_any v10 (some ⟨g15, 0, none⟩) 1 V.heap.size (ints (four key)) (ints [m]) X4 PX4.out (src_one MX4.out) (by simp [ints, four]) EX4.out.size) ?_
        rintro e X5 ⟨v16, rfl, hP, hG, hL⟩
        have hE2 : Below V.heap.size X4 X5 := Oct.grown_below hG EX4.out.size (fun g hg => (World.ownsRow.lt PX4.out g hg).1)
        have EX5 := Lib.hid (EX4.out.trans hE2)
        have XX5 := Lib.hid (XX4.out.below hE2 hv)
        rw [ints_append] at hP
        have PX5 := Lib.hid hP
        clear hP hG hL hE2 PX4 EX4 XX4 MX4
        refine ⟨_, rfl, ?_⟩
        refine hK.out _ _ (XX5.out) (fun hHeld => ?_)
        clear hK K
        show wpAnyH _ _ _ _ _ _ _ (Act.put _ (some 16) _) _
        simp only [Act.put, List.setIfInBounds_toArray, List.set_cons_zero, List.set_cons_succ]
        refine wpAnyH_take (i := 11) (v := v16) rfl (by kernel_rfl) (by kernel_rfl) (by kernel_rfl) (fun _ _ _ h => h) (Or.inl ⟨by rfl, fun w _ => by rfl⟩) hHeld ?_
        show wpAnyH _ _ _ _ _ _ _ (Act.put _ (some 5) _) _
        simp only [Act.put, List.setIfInBounds_toArray, List.set_cons_zero, List.set_cons_succ]
        refine wpAnyH_done (by kernel_rfl) ?_ _
        clear hHeld
        go_upto_region 2 with fail
        have hBz : Below X5.heap.size X5 X5.drew := below_drewN (Below.refl _ _) 1
        have XY0 : Hid (Blk X5.drew w.heap.size 94 (rsg S key (.slice A m c))) := Lib.hid (XX5.out.below hBz XX5.out.lt)
        have EY0 : Hid (Below V.heap.size V X5.drew) := Lib.hid (EX5.out.trans (hBz.mono EX5.out.size))
        have PY0 : Hid (Oct.Own X5.drew V.heap.size v16 (ints (four key ++ [m]))) := Lib.hid (own_keepB PX5.out hBz)
        clear hBz
        refine wp_region_held_drew (S := fun w' => Blk w' w.heap.size 94 (rsg S key (.slice A m c))) (by kernel_rfl) (XY0.out) (fun hHeld => ?_)
        generalize X5.drew = Y0 at hHeld XY0 EY0 PY0 ⊢
        refine wpAnyH_take (i := 0) (v := .pointer (some ⟨w.heap.size, 0, none⟩)) rfl (by kernel_rfl) (by kernel_rfl) (by kernel_rfl) (fun _ _ _ h => h) (Or.inl ⟨by rfl, by intro w' h; go_simp⟩) hHeld ?_
        show wpAnyH _ _ _ _ _ _ _ (Act.put _ (some 17) _) _
        simp only [Act.put, List.setIfInBounds_toArray, List.set_cons_zero, List.set_cons_succ]
        refine wpAnyH_take (i := 1) (v := .agg (w8 S).toArray) rfl (by kernel_rfl) (by kernel_rfl) (by kernel_rfl) (fun _ _ _ h => h) (yieldsIf_load_mid (by rfl) 56 (.tmp 17) rfl w.heap.size 0 rfl (w8 S) _ (fun w' h => rsg_sig h HSL.out) Tryd.underlying56 rfl HIS.out) hHeld ?_
        show wpAnyH _ _ _ _ _ _ _ (Act.put _ (some 18) _) _
        simp only [Act.put, List.setIfInBounds_toArray, List.set_cons_zero, List.set_cons_succ]
        refine wpAnyH_take (i := 2) (v := v16) rfl (by kernel_rfl) (by kernel_rfl) (by kernel_rfl) (fun _ _ _ h => h) (Or.inl ⟨by rfl, fun w _ => by rfl⟩) hHeld ?_
        show wpAnyH _ _ _ _ _ _ _ (Act.put _ (some 19) _) _
        simp only [Act.put, List.setIfInBounds_toArray, List.set_cons_zero, List.set_cons_succ]
        refine wpAnyH_take (i := 4) (v := .pointer (some ⟨w.heap.size, 1025, none⟩)) rfl (by kernel_rfl) (by kernel_rfl) (by kernel_rfl) (fun _ _ _ h => h) (Or.inl ⟨by rfl, by intro w' h; go_simp⟩) hHeld ?_
        show wpAnyH _ _ _ _ _ _ _ (Act.put _ (some 21) _) _
        simp only [Act.put, List.setIfInBounds_toArray, List.set_cons_zero, List.set_cons_succ]
        refine wpAnyH_take (i := 5) (v := .slice A m c) rfl (by kernel_rfl) (by kernel_rfl) (by kernel_rfl) (fun _ _ _ h => h) (Or.inl ⟨by rfl, by intro w' h; have q9 := Blk.cell h 1025; rw [rsg_way _ _ _ HSL.out] at q9; go_simp⟩) hHeld ?_
        show wpAnyH _ _ _ _ _ _ _ (Act.put _ (some 22) _) _
        simp only [Act.put, List.setIfInBounds_toArray, List.set_cons_zero, List.set_cons_succ]
        refine wpAnyH_ready (rs := [3]) (by kernel_rfl) (by simp) ?_
        refine AllReadyH.cons rfl (fun K hK => ?_) AllReadyH.nil
        refine step_call rfl 33 #[.tmp 18, .tmp 19] #[56, 71] rfl #[.agg (w8 S).toArray, v16] (by simp [Act.eval]) (by go_simp) (lay_lamp S v16 V.heap.size (four key ++ [m]) Y0 HSL HSP PY0 EY0.out.size (by simp [four])) ?_
        rintro e X1 ⟨v20, rfl, hP, hG, hL⟩
        have hE2 : Below V.heap.size Y0 X1 := Oct.grown_below hG EY0.out.size (fun g hg => (World.ownsRow.lt PY0.out g hg).1)
        have EX1 := Lib.hid (EY0.out.trans hE2)
        have XX1 := Lib.hid (XY0.out.below hE2 hv)
        have PX1 := Lib.hid hP
        clear hP hG hL hE2 PY0 EY0 XY0
        refine ⟨_, rfl, ?_⟩
        refine hK.out _ _ (XX1.out) (fun hHeld => ?_)
        clear hK K
        show wpAnyH _ _ _ _ _ _ _ (Act.put _ (some 20) _) _
        simp only [Act.put, List.setIfInBounds_toArray, List.set_cons_zero, List.set_cons_succ]
        refine wpAnyH_ready (rs := [6]) (by kernel_rfl) (by simp) ?_
        refine AllReadyH.cons rfl (fun K hK => ?_) AllReadyH.nil
        refine step_call rfl 74 #[.tmp 20, .tmp 22] #[71, 92] rfl #[v20, .slice A m c] (by simp [Act.eval]) (by go_simp) (HSUM.out X1 v20 PX1.out EX1.out) ?_
        rintro e X2 ⟨v23, rfl, hP, hG, hL⟩
        have hE2 : Below V.heap.size X1 X2 := Oct.grown_below hG EX1.out.size (fun g hg => (World.ownsRow.lt PX1.out g hg).1)
        have EX2 := Lib.hid (EX1.out.trans hE2)
        have XX2 := Lib.hid (XX1.out.below hE2 hv)
        have PX2 := Lib.hid hP
        clear hP hG hL hE2 PX1 EX1 XX1
        refine ⟨_, rfl, ?_⟩
        refine hK.out _ _ (XX2.out) (fun hHeld => ?_)
        clear hK K
        show wpAnyH _ _ _ _ _ _ _ (Act.put _ (some 23) _) _
        simp only [Act.put, List.setIfInBounds_toArray, List.set_cons_zero, List.set_cons_succ]
        refine wpAnyH_take (i := 7) (v := v23) rfl (by kernel_rfl) (by kernel_rfl) (by kernel_rfl) (fun _ _ _ h => h) (Or.inl ⟨by rfl, fun w _ => by rfl⟩) hHeld ?_
        show wpAnyH _ _ _ _ _ _ _ (Act.put _ (some 5) _) _
        simp only [Act.put, List.setIfInBounds_toArray, List.set_cons_zero, List.set_cons_succ]
        refine wpAnyH_done (by kernel_rfl) ?_ _
        clear hHeld
        obtain ⟨A3, c3, hv3, hs3⟩ := Oct.Own.src PX2.out
        subst hv3
        have HWZ : Hid (Below w.heap.size w X2) := Lib.hid (BV.out.trans (EX2.out.mono (by omega)))
        have HS3 := Lib.hid hs3
        have HOZ : Hid (Oct.Own X2 base v (ints xs)) := Lib.hid (own_keepB HO.out HWZ.out)
        clear hs3
        go_wp2_with fail
        refine (Oct.one_any v A3 c3 base (ints xs) (ints (rlayN S key q m)) X2 HOZ.out HS3.out (by rw [ints_length, ints_length, rlayN_length S key q m HSL.out HQ.out]; omega) (by have := HWZ.out.size; omega)).mono ?_
        rintro e Z9 ⟨v9, rfl, hP, hG, hL⟩
        rw [ints_append] at hP
        have HF : Hid (w.grownBy Z9 v.ownBlock ∧ Oct.Lies w v v9) := Lib.hid ⟨below_grown HWZ.out hG, lies_up HWZ.out hL⟩
        have HP9 := Lib.hid hP
        clear hP hG hL
        go_wp2
        go_ret
        exact ⟨v9, rfl, HP9.out, HF.out.1, HF.out.2⟩
      · refine Kt.step_lay rfl 30 1 #[(0, .tmp 14)] rfl #[(0, .int .u8 (m : Int))] (by simp [Act.eval]) (.slice (some ⟨X2.heap.size, 0, none⟩) 1 1) (X2.alloc (.cells #[.int .u8 (m : Int)] 5)) (by kernel_rfl) ?_
        have hB : Below X2.heap.size X2 (X2.alloc (.cells #[.int .u8 (m : Int)] 5)) := (Below.refl _ _).alloc (Nat.le_refl _) _
        have hM := Blk.new X2 5 [.int .u8 (m : Int)]
        have hN0 := (World.ownsRow.lt PX2.out g6 rfl).2
        generalize X2.alloc (.cells #[.int .u8 (m : Int)] 5) = X3 at hB hM ⊢
        obtain ⟨g15, hg15⟩ : ∃ q, X2.heap.size = q := ⟨_, rfl⟩
        rw [hg15] at hM ⊢
        have hN : Hid (g15 ≠ g6) := Lib.hid (by omega)
        clear hN0
        clear hg15
        have XX3 : Hid (Blk X3 w.heap.size 94 (rsg S key (.slice A m c))) := Lib.hid (XX2.out.below hB XX2.out.lt)
        have EX3 : Hid (Below V.heap.size V X3) := Lib.hid (EX2.out.trans (hB.mono EX2.out.size))
        have PX3 : Hid (Oct.Own X3 V.heap.size (.slice (some ⟨g6, 0, none⟩) 0 0) []) := Lib.hid (own_keepB PX2.out hB)
        have KX3 : Hid (Oct.Rd .u32 X3 (some ⟨g9, 0, none⟩) [(key : Int)]) := Lib.hid (KX2.out.below hB)
        have MX3 : Hid (Blk X3 g15 5 [.int .u8 (m : Int)]) := Lib.hid (hM)
        clear XX2 EX2 PX2 KX2 hB hM
        refine hK.out _ _ (XX3.out) (fun hHeld => ?_)
        clear hK K
        show wpAnyH _ _ _ _ _ _ _ (Act.put _ (some 15) _) _
        simp only [Act.put, List.setIfInBounds_toArray, List.set_cons_zero, List.set_cons_succ]
        refine wpAnyH_ready (rs := [4]) (by kernel_rfl) (by simp) ?_
        refine AllReadyH.cons rfl (fun K hK => ?_) AllReadyH.nil
        refine step_call rfl 87 #[.tmp 6, .tmp 9] #[71, 82] rfl #[.slice (some ⟨g6, 0, none⟩) 0 0, .slice (some ⟨g9, 0, none⟩) 1 1] (by simp [Act.eval]) (by go_simp) (Oct.four_any (.slice (some ⟨g6, 0, none⟩) 0 0) (some ⟨g9, 0, none⟩) 1 V.heap.size [] [(key : Int)] X3 PX3.out KX3.out (by intro x hx; simp at hx; omega) (by simp) EX3.out.size) ?_
        rintro e X4 ⟨v10, rfl, hP, hG, hL⟩
        have hE2 : Below V.heap.size X3 X4 := Oct.grown_below hG EX3.out.size (fun g hg => (World.ownsRow.lt PX3.out g hg).1)
        have EX4 := Lib.hid (EX3.out.trans hE2)
        have XX4 := Lib.hid (XX3.out.below hE2 hv)
        have MX4 := Lib.hid (MX3.out.grown hG (fun e => by injection e with e; exact hN.out e))
        rw [List.nil_append, ints_four] at hP
        have PX4 := Lib.hid hP
        clear hP hG hL hE2 PX3 EX3 XX3 KX3 MX3 hN
        refine ⟨_, rfl, ?_⟩
        refine hK.out _ _ (XX4.out) (fun hHeld => ?_)
        clear hK K
        show wpAnyH _ _ _ _ _ _ _ (Act.put _ (some 10) _) _
        simp only [Act.put, List.setIfInBounds_toArray, List.set_cons_zero, List.set_cons_succ]
        refine wpAnyH_ready (rs := [10]) (by kernel_rfl) (by simp) ?_
        refine AllReadyH.cons rfl (fun K hK => ?_) AllReadyH.nil
        refine step_call rfl 88 #[.tmp 10, .tmp 15] #[71, 30] rfl #[v10, .slice (some ⟨g15, 0, none⟩) 1 1] (by simp [Act.eval]) (by go_simp) (Oct.one_any v10 (some ⟨g15, 0, none⟩) 1 V.heap.size (ints (four key)) (ints [m]) X4 PX4.out (src_one MX4.out) (by simp [ints, four]) EX4.out.size) ?_
        rintro e X5 ⟨v16, rfl, hP, hG, hL⟩
        have hE2 : Below V.heap.size X4 X5 := Oct.grown_below hG EX4.out.size (fun g hg => (World.ownsRow.lt PX4.out g hg).1)
        have EX5 := Lib.hid (EX4.out.trans hE2)
        have XX5 := Lib.hid (XX4.out.below hE2 hv)
        rw [ints_append] at hP
        have PX5 := Lib.hid hP
        clear hP hG hL hE2 PX4 EX4 XX4 MX4
        refine ⟨_, rfl, ?_⟩
        refine hK.out _ _ (XX5.out) (fun hHeld => ?_)
        clear hK K
        show wpAnyH _ _ _ _ _ _ _ (Act.put _ (some 16) _) _
        simp only [Act.put, List.setIfInBounds_toArray, List.set_cons_zero, List.set_cons_succ]
        refine wpAnyH_take (i := 11) (v := v16) rfl (by kernel_rfl) (by kernel_rfl) (by kernel_rfl) (fun _ _ _ h => h) (Or.inl ⟨by rfl, fun w _ => by rfl⟩) hHeld ?_
        show wpAnyH _ _ _ _ _ _ _ (Act.put _ (some 5) _) _
        simp only [Act.put, List.setIfInBounds_toArray, List.set_cons_zero, List.set_cons_succ]
        refine wpAnyH_done (by kernel_rfl) ?_ _
        clear hHeld
        go_upto_region 2 with fail
        have hBz : Below X5.heap.size X5 X5.drew := below_drewN (Below.refl _ _) 1
        have XY0 : Hid (Blk X5.drew w.heap.size 94 (rsg S key (.slice A m c))) := Lib.hid (XX5.out.below hBz XX5.out.lt)
        have EY0 : Hid (Below V.heap.size V X5.drew) := Lib.hid (EX5.out.trans (hBz.mono EX5.out.size))
        have PY0 : Hid (Oct.Own X5.drew V.heap.size v16 (ints (four key ++ [m]))) := Lib.hid (own_keepB PX5.out hBz)
        clear hBz
        refine wp_region_held_drew (S := fun w' => Blk w' w.heap.size 94 (rsg S key (.slice A m c))) (by kernel_rfl) (XY0.out) (fun hHeld => ?_)
        generalize X5.drew = Y0 at hHeld XY0 EY0 PY0 ⊢
        refine wpAnyH_take (i := 0) (v := .pointer (some ⟨w.heap.size, 0, none⟩)) rfl (by kernel_rfl) (by kernel_rfl) (by kernel_rfl) (fun _ _ _ h => h) (Or.inl ⟨by rfl, by intro w' h; go_simp⟩) hHeld ?_
        show wpAnyH _ _ _ _ _ _ _ (Act.put _ (some 17) _) _
        simp only [Act.put, List.setIfInBounds_toArray, List.set_cons_zero, List.set_cons_succ]
        refine wpAnyH_take (i := 1) (v := .agg (w8 S).toArray) rfl (by kernel_rfl) (by kernel_rfl) (by kernel_rfl) (fun _ _ _ h => h) (yieldsIf_load_mid (by rfl) 56 (.tmp 17) rfl w.heap.size 0 rfl (w8 S) _ (fun w' h => rsg_sig h HSL.out) Tryd.underlying56 rfl HIS.out) hHeld ?_
        show wpAnyH _ _ _ _ _ _ _ (Act.put _ (some 18) _) _
        simp only [Act.put, List.setIfInBounds_toArray, List.set_cons_zero, List.set_cons_succ]
        refine wpAnyH_take (i := 2) (v := v16) rfl (by kernel_rfl) (by kernel_rfl) (by kernel_rfl) (fun _ _ _ h => h) (Or.inl ⟨by rfl, fun w _ => by rfl⟩) hHeld ?_
        show wpAnyH _ _ _ _ _ _ _ (Act.put _ (some 19) _) _
        simp only [Act.put, List.setIfInBounds_toArray, List.set_cons_zero, List.set_cons_succ]
        refine wpAnyH_take (i := 4) (v := .pointer (some ⟨w.heap.size, 1025, none⟩)) rfl (by kernel_rfl) (by kernel_rfl) (by kernel_rfl) (fun _ _ _ h => h) (Or.inl ⟨by rfl, by intro w' h; go_simp⟩) hHeld ?_
        show wpAnyH _ _ _ _ _ _ _ (Act.put _ (some 21) _) _
        simp only [Act.put, List.setIfInBounds_toArray, List.set_cons_zero, List.set_cons_succ]
        refine wpAnyH_take (i := 5) (v := .slice A m c) rfl (by kernel_rfl) (by kernel_rfl) (by kernel_rfl) (fun _ _ _ h => h) (Or.inl ⟨by rfl, by intro w' h; have q9 := Blk.cell h 1025; rw [rsg_way _ _ _ HSL.out] at q9; go_simp⟩) hHeld ?_
        show wpAnyH _ _ _ _ _ _ _ (Act.put _ (some 22) _) _
        simp only [Act.put, List.setIfInBounds_toArray, List.set_cons_zero, List.set_cons_succ]
        refine wpAnyH_ready (rs := [3]) (by kernel_rfl) (by simp) ?_
        refine AllReadyH.cons rfl (fun K hK => ?_) AllReadyH.nil
        refine step_call rfl 33 #[.tmp 18, .tmp 19] #[56, 71] rfl #[.agg (w8 S).toArray, v16] (by simp [Act.eval]) (by go_simp) (lay_lamp S v16 V.heap.size (four key ++ [m]) Y0 HSL HSP PY0 EY0.out.size (by simp [four])) ?_
        rintro e X1 ⟨v20, rfl, hP, hG, hL⟩
        have hE2 : Below V.heap.size Y0 X1 := Oct.grown_below hG EY0.out.size (fun g hg => (World.ownsRow.lt PY0.out g hg).1)
        have EX1 := Lib.hid (EY0.out.trans hE2)
        have XX1 := Lib.hid (XY0.out.below hE2 hv)
        have PX1 := Lib.hid hP
        clear hP hG hL hE2 PY0 EY0 XY0
        refine ⟨_, rfl, ?_⟩
        refine hK.out _ _ (XX1.out) (fun hHeld => ?_)
        clear hK K
        show wpAnyH _ _ _ _ _ _ _ (Act.put _ (some 20) _) _
        simp only [Act.put, List.setIfInBounds_toArray, List.set_cons_zero, List.set_cons_succ]
        refine wpAnyH_ready (rs := [6]) (by kernel_rfl) (by simp) ?_
        refine AllReadyH.cons rfl (fun K hK => ?_) AllReadyH.nil
        refine step_call rfl 74 #[.tmp 20, .tmp 22] #[71, 92] rfl #[v20, .slice A m c] (by simp [Act.eval]) (by go_simp) (HSUM.out X1 v20 PX1.out EX1.out) ?_
        rintro e X2 ⟨v23, rfl, hP, hG, hL⟩
        have hE2 : Below V.heap.size X1 X2 := Oct.grown_below hG EX1.out.size (fun g hg => (World.ownsRow.lt PX1.out g hg).1)
        have EX2 := Lib.hid (EX1.out.trans hE2)
        have XX2 := Lib.hid (XX1.out.below hE2 hv)
        have PX2 := Lib.hid hP
        clear hP hG hL hE2 PX1 EX1 XX1
        refine ⟨_, rfl, ?_⟩
        refine hK.out _ _ (XX2.out) (fun hHeld => ?_)
        clear hK K
        show wpAnyH _ _ _ _ _ _ _ (Act.put _ (some 23) _) _
        simp only [Act.put, List.setIfInBounds_toArray, List.set_cons_zero, List.set_cons_succ]
        refine wpAnyH_take (i := 7) (v := v23) rfl (by kernel_rfl) (by kernel_rfl) (by kernel_rfl) (fun _ _ _ h => h) (Or.inl ⟨by rfl, fun w _ => by rfl⟩) hHeld ?_
        show wpAnyH _ _ _ _ _ _ _ (Act.put _ (some 5) _) _
        simp only [Act.put, List.setIfInBounds_toArray, List.set_cons_zero, List.set_cons_succ]
        refine wpAnyH_done (by kernel_rfl) ?_ _
        clear hHeld
        obtain ⟨A3, c3, hv3, hs3⟩ := Oct.Own.src PX2.out
        subst hv3
        have HWZ : Hid (Below w.heap.size w X2) := Lib.hid (BV.out.trans (EX2.out.mono (by omega)))
        have HS3 := Lib.hid hs3
        have HOZ : Hid (Oct.Own X2 base v (ints xs)) := Lib.hid (own_keepB HO.out HWZ.out)
        clear hs3
        go_wp2_with fail
        refine (Oct.one_any v A3 c3 base (ints xs) (ints (rlayN S key q m)) X2 HOZ.out HS3.out (by rw [ints_length, ints_length, rlayN_length S key q m HSL.out HQ.out]; omega) (by have := HWZ.out.size; omega)).mono ?_
        rintro e Z9 ⟨v9, rfl, hP, hG, hL⟩
        rw [ints_append] at hP
        have HF : Hid (w.grownBy Z9 v.ownBlock ∧ Oct.Lies w v v9) := Lib.hid ⟨below_grown HWZ.out hG, lies_up HWZ.out hL⟩
        have HP9 := Lib.hid hP
        clear hP hG hL
        go_wp2
        go_ret
        exact ⟨v9, rfl, HP9.out, HF.out.1, HF.out.2⟩
    · refine Kt.step_lay rfl 30 1 #[(0, .tmp 14)] rfl #[(0, .int .u8 (m : Int))] (by simp [Act.eval]) (.slice (some ⟨X1.heap.size, 0, none⟩) 1 1) (X1.alloc (.cells #[.int .u8 (m : Int)] 5)) (by kernel_rfl) ?_
      have hB : Below X1.heap.size X1 (X1.alloc (.cells #[.int .u8 (m : Int)] 5)) := (Below.refl _ _).alloc (Nat.le_refl _) _
      have hM := Blk.new X1 5 [.int .u8 (m : Int)]
      have hN0 := (World.ownsRow.lt PX1.out g6 rfl).2
      generalize X1.alloc (.cells #[.int .u8 (m : Int)] 5) = X2 at hB hM ⊢
      obtain ⟨g15, hg15⟩ : ∃ q, X1.heap.size = q := ⟨_, rfl⟩
      rw [hg15] at hM ⊢
      have hN : Hid (g15 ≠ g6) := Lib.hid (by omega)
      clear hN0
      clear hg15
      have XX2 : Hid (Blk X2 w.heap.size 94 (rsg S key (.slice A m c))) := Lib.hid (XX1.out.below hB XX1.out.lt)
      have EX2 : Hid (Below V.heap.size V X2) := Lib.hid (EX1.out.trans (hB.mono EX1.out.size))
      have PX2 : Hid (Oct.Own X2 V.heap.size (.slice (some ⟨g6, 0, none⟩) 0 0) []) := Lib.hid (own_keepB PX1.out hB)
      have MX2 : Hid (Blk X2 g15 5 [.int .u8 (m : Int)]) := Lib.hid (hM)
      clear XX1 EX1 PX1 hB hM
      refine hK.out _ _ (XX2.out) (fun hHeld => ?_)
      clear hK K
      show wpAnyH _ _ _ _ _ _ _ (Act.put _ (some 15) _) _
      simp only [Act.put, List.setIfInBounds_toArray, List.set_cons_zero, List.set_cons_succ]
      refine wpAnyH_ready (rs := [3]) (by kernel_rfl) (by simp) ?_
      refine AllReadyH.cons rfl (fun K hK => ?_) AllReadyH.nil
      refine Kt.step_lay rfl 82 1 #[(0, .tmp 8)] rfl #[(0, .int .u32 (key : Int))] (by simp [Act.eval]) (.slice (some ⟨X2.heap.size, 0, none⟩) 1 1) (X2.alloc (.cells #[.int .u32 (key : Int)] 38)) (by kernel_rfl) ?_
      have hB : Below X2.heap.size X2 (X2.alloc (.cells #[.int .u32 (key : Int)] 38)) := (Below.refl _ _).alloc (Nat.le_refl _) _
      have hK9 := Oct.Rd.lit .u32 38 X2 #[.int .u32 (key : Int)] [(key : Int)] rfl
      generalize X2.alloc (.cells #[.int .u32 (key : Int)] 38) = X3 at hB hK9 ⊢
      generalize X2.heap.size = g9 at hK9 ⊢
      have XX3 : Hid (Blk X3 w.heap.size 94 (rsg S key (.slice A m c))) := Lib.hid (XX2.out.below hB XX2.out.lt)
      have EX3 : Hid (Below V.heap.size V X3) := Lib.hid (EX2.out.trans (hB.mono EX2.out.size))
      have PX3 : Hid (Oct.Own X3 V.heap.size (.slice (some ⟨g6, 0, none⟩) 0 0) []) := Lib.hid (own_keepB PX2.out hB)
      have MX3 : Hid (Blk X3 g15 5 [.int .u8 (m : Int)]) := Lib.hid (MX2.out.below hB MX2.out.lt)
      have KX3 : Hid (Oct.Rd .u32 X3 (some ⟨g9, 0, none⟩) [(key : Int)]) := Lib.hid (hK9)
      clear XX2 EX2 PX2 MX2 hB hK9
      refine hK.out _ _ (XX3.out) (fun hHeld => ?_)
      clear hK K
      show wpAnyH _ _ _ _ _ _ _ (Act.put _ (some 9) _) _
      simp only [Act.put, List.setIfInBounds_toArray, List.set_cons_zero, List.set_cons_succ]
      refine wpAnyH_ready (rs := [4]) (by kernel_rfl) (by simp) ?_
      refine AllReadyH.cons rfl (fun K hK => ?_) AllReadyH.nil
      refine step_call rfl 87 #[.tmp 6, .tmp 9] #[71, 82] rfl #[.slice (some ⟨g6, 0, none⟩) 0 0, .slice (some ⟨g9, 0, none⟩) 1 1] (by simp [Act.eval]) (by go_simp) (Oct.four_any (.slice (some ⟨g6, 0, none⟩) 0 0) (some ⟨g9, 0, none⟩) 1 V.heap.size [] [(key : Int)] X3 PX3.out KX3.out (by intro x hx; simp at hx; omega) (by simp) EX3.out.size) ?_
      rintro e X4 ⟨v10, rfl, hP, hG, hL⟩
      have hE2 : Below V.heap.size X3 X4 := Oct.grown_below hG EX3.out.size (fun g hg => (World.ownsRow.lt PX3.out g hg).1)
      have EX4 := Lib.hid (EX3.out.trans hE2)
      have XX4 := Lib.hid (XX3.out.below hE2 hv)
      have MX4 := Lib.hid (MX3.out.grown hG (fun e => by injection e with e; exact hN.out e))
      rw [List.nil_append, ints_four] at hP
      have PX4 := Lib.hid hP
      clear hP hG hL hE2 PX3 EX3 XX3 KX3 MX3 hN
      refine ⟨_, rfl, ?_⟩
      refine hK.out _ _ (XX4.out) (fun hHeld => ?_)
      clear hK K
      show wpAnyH _ _ _ _ _ _ _ (Act.put _ (some 10) _) _
      simp only [Act.put, List.setIfInBounds_toArray, List.set_cons_zero, List.set_cons_succ]
      refine wpAnyH_ready (rs := [10]) (by kernel_rfl) (by simp) ?_
      refine AllReadyH.cons rfl (fun K hK => ?_) AllReadyH.nil
      refine step_call rfl 88 #[.tmp 10, .tmp 15] #[71, 30] rfl #[v10, .slice (some ⟨g15, 0, none⟩) 1 1] (by simp [Act.eval]) (by go_simp) (Oct.one_any v10 (some ⟨g15, 0, none⟩) 1 V.heap.size (ints (four key)) (ints [m]) X4 PX4.out (src_one MX4.out) (by simp [ints, four]) EX4.out.size) ?_
      rintro e X5 ⟨v16, rfl, hP, hG, hL⟩
      have hE2 : Below V.heap.size X4 X5 := Oct.grown_below hG EX4.out.size (fun g hg => (World.ownsRow.lt PX4.out g hg).1)
      have EX5 := Lib.hid (EX4.out.trans hE2)
      have XX5 := Lib.hid (XX4.out.below hE2 hv)
      rw [ints_append] at hP
      have PX5 := Lib.hid hP
      clear hP hG hL hE2 PX4 EX4 XX4 MX4
      refine ⟨_, rfl, ?_⟩
      refine hK.out _ _ (XX5.out) (fun hHeld => ?_)
      clear hK K
      show wpAnyH _ _ _ _ _ _ _ (Act.put _ (some 16) _) _
      simp only [Act.put, List.setIfInBounds_toArray, List.set_cons_zero, List.set_cons_succ]
      refine wpAnyH_take (i := 11) (v := v16) rfl (by kernel_rfl) (by kernel_rfl) (by kernel_rfl) (fun _ _ _ h => h) (Or.inl ⟨by rfl, fun w _ => by rfl⟩) hHeld ?_
      show wpAnyH _ _ _ _ _ _ _ (Act.put _ (some 5) _) _
      simp only [Act.put, List.setIfInBounds_toArray, List.set_cons_zero, List.set_cons_succ]
      refine wpAnyH_done (by kernel_rfl) ?_ _
      clear hHeld
      go_upto_region 2 with fail
      have hBz : Below X5.heap.size X5 X5.drew := below_drewN (Below.refl _ _) 1
      have XY0 : Hid (Blk X5.drew w.heap.size 94 (rsg S key (.slice A m c))) := Lib.hid (XX5.out.below hBz XX5.out.lt)
      have EY0 : Hid (Below V.heap.size V X5.drew) := Lib.hid (EX5.out.trans (hBz.mono EX5.out.size))
      have PY0 : Hid (Oct.Own X5.drew V.heap.size v16 (ints (four key ++ [m]))) := Lib.hid (own_keepB PX5.out hBz)
      clear hBz
      refine wp_region_held_drew (S := fun w' => Blk w' w.heap.size 94 (rsg S key (.slice A m c))) (by kernel_rfl) (XY0.out) (fun hHeld => ?_)
      generalize X5.drew = Y0 at hHeld XY0 EY0 PY0 ⊢
      refine wpAnyH_take (i := 0) (v := .pointer (some ⟨w.heap.size, 0, none⟩)) rfl (by kernel_rfl) (by kernel_rfl) (by kernel_rfl) (fun _ _ _ h => h) (Or.inl ⟨by rfl, by intro w' h; go_simp⟩) hHeld ?_
      show wpAnyH _ _ _ _ _ _ _ (Act.put _ (some 17) _) _
      simp only [Act.put, List.setIfInBounds_toArray, List.set_cons_zero, List.set_cons_succ]
      refine wpAnyH_take (i := 1) (v := .agg (w8 S).toArray) rfl (by kernel_rfl) (by kernel_rfl) (by kernel_rfl) (fun _ _ _ h => h) (yieldsIf_load_mid (by rfl) 56 (.tmp 17) rfl w.heap.size 0 rfl (w8 S) _ (fun w' h => rsg_sig h HSL.out) Tryd.underlying56 rfl HIS.out) hHeld ?_
      show wpAnyH _ _ _ _ _ _ _ (Act.put _ (some 18) _) _
      simp only [Act.put, List.setIfInBounds_toArray, List.set_cons_zero, List.set_cons_succ]
      refine wpAnyH_take (i := 2) (v := v16) rfl (by kernel_rfl) (by kernel_rfl) (by kernel_rfl) (fun _ _ _ h => h) (Or.inl ⟨by rfl, fun w _ => by rfl⟩) hHeld ?_
      show wpAnyH _ _ _ _ _ _ _ (Act.put _ (some 19) _) _
      simp only [Act.put, List.setIfInBounds_toArray, List.set_cons_zero, List.set_cons_succ]
      refine wpAnyH_take (i := 4) (v := .pointer (some ⟨w.heap.size, 1025, none⟩)) rfl (by kernel_rfl) (by kernel_rfl) (by kernel_rfl) (fun _ _ _ h => h) (Or.inl ⟨by rfl, by intro w' h; go_simp⟩) hHeld ?_
      show wpAnyH _ _ _ _ _ _ _ (Act.put _ (some 21) _) _
      simp only [Act.put, List.setIfInBounds_toArray, List.set_cons_zero, List.set_cons_succ]
      refine wpAnyH_take (i := 5) (v := .slice A m c) rfl (by kernel_rfl) (by kernel_rfl) (by kernel_rfl) (fun _ _ _ h => h) (Or.inl ⟨by rfl, by intro w' h; have q9 := Blk.cell h 1025; rw [rsg_way _ _ _ HSL.out] at q9; go_simp⟩) hHeld ?_
      show wpAnyH _ _ _ _ _ _ _ (Act.put _ (some 22) _) _
      simp only [Act.put, List.setIfInBounds_toArray, List.set_cons_zero, List.set_cons_succ]
      refine wpAnyH_ready (rs := [3]) (by kernel_rfl) (by simp) ?_
      refine AllReadyH.cons rfl (fun K hK => ?_) AllReadyH.nil
      refine step_call rfl 33 #[.tmp 18, .tmp 19] #[56, 71] rfl #[.agg (w8 S).toArray, v16] (by simp [Act.eval]) (by go_simp) (lay_lamp S v16 V.heap.size (four key ++ [m]) Y0 HSL HSP PY0 EY0.out.size (by simp [four])) ?_
      rintro e X1 ⟨v20, rfl, hP, hG, hL⟩
      have hE2 : Below V.heap.size Y0 X1 := Oct.grown_below hG EY0.out.size (fun g hg => (World.ownsRow.lt PY0.out g hg).1)
      have EX1 := Lib.hid (EY0.out.trans hE2)
      have XX1 := Lib.hid (XY0.out.below hE2 hv)
      have PX1 := Lib.hid hP
      clear hP hG hL hE2 PY0 EY0 XY0
      refine ⟨_, rfl, ?_⟩
      refine hK.out _ _ (XX1.out) (fun hHeld => ?_)
      clear hK K
      show wpAnyH _ _ _ _ _ _ _ (Act.put _ (some 20) _) _
      simp only [Act.put, List.setIfInBounds_toArray, List.set_cons_zero, List.set_cons_succ]
      refine wpAnyH_ready (rs := [6]) (by kernel_rfl) (by simp) ?_
      refine AllReadyH.cons rfl (fun K hK => ?_) AllReadyH.nil
      refine step_call rfl 74 #[.tmp 20, .tmp 22] #[71, 92] rfl #[v20, .slice A m c] (by simp [Act.eval]) (by go_simp) (HSUM.out X1 v20 PX1.out EX1.out) ?_
      rintro e X2 ⟨v23, rfl, hP, hG, hL⟩
      have hE2 : Below V.heap.size X1 X2 := Oct.grown_below hG EX1.out.size (fun g hg => (World.ownsRow.lt PX1.out g hg).1)
      have EX2 := Lib.hid (EX1.out.trans hE2)
      have XX2 := Lib.hid (XX1.out.below hE2 hv)
      have PX2 := Lib.hid hP
      clear hP hG hL hE2 PX1 EX1 XX1
      refine ⟨_, rfl, ?_⟩
      refine hK.out _ _ (XX2.out) (fun hHeld => ?_)
      clear hK K
      show wpAnyH _ _ _ _ _ _ _ (Act.put _ (some 23) _) _
      simp only [Act.put, List.setIfInBounds_toArray, List.set_cons_zero, List.set_cons_succ]
      refine wpAnyH_take (i := 7) (v := v23) rfl (by kernel_rfl) (by kernel_rfl) (by kernel_rfl) (fun _ _ _ h => h) (Or.inl ⟨by rfl, fun w _ => by rfl⟩) hHeld ?_
      show wpAnyH _ _ _ _ _ _ _ (Act.put _ (some 5) _) _
      simp only [Act.put, List.setIfInBounds_toArray, List.set_cons_zero, List.set_cons_succ]
      refine wpAnyH_done (by kernel_rfl) ?_ _
      clear hHeld
      obtain ⟨A3, c3, hv3, hs3⟩ := Oct.Own.src PX2.out
      subst hv3
      have HWZ : Hid (Below w.heap.size w X2) := Lib.hid (BV.out.trans (EX2.out.mono (by omega)))
      have HS3 := Lib.hid hs3
      have HOZ : Hid (Oct.Own X2 base v (ints xs)) := Lib.hid (own_keepB HO.out HWZ.out)
      clear hs3
      go_wp2_with fail
      refine (Oct.one_any v A3 c3 base (ints xs) (ints (rlayN S key q m)) X2 HOZ.out HS3.out (by rw [ints_length, ints_length, rlayN_length S key q m HSL.out HQ.out]; omega) (by have := HWZ.out.size; omega)).mono ?_
      rintro e Z9 ⟨v9, rfl, hP, hG, hL⟩
      rw [ints_append] at hP
      have HF : Hid (w.grownBy Z9 v.ownBlock ∧ Oct.Lies w v v9) := Lib.hid ⟨below_grown HWZ.out hG, lies_up HWZ.out hL⟩
      have HP9 := Lib.hid hP
      clear hP hG hL
      go_wp2
      go_ret
      exact ⟨v9, rfl, HP9.out, HF.out.1, HF.out.2⟩
  · refine Kt.step_lay rfl 82 1 #[(0, .tmp 8)] rfl #[(0, .int .u32 (key : Int))] (by simp [Act.eval]) (.slice (some ⟨X0.heap.size, 0, none⟩) 1 1) (X0.alloc (.cells #[.int .u32 (key : Int)] 38)) (by kernel_rfl) ?_
    have hB : Below X0.heap.size X0 (X0.alloc (.cells #[.int .u32 (key : Int)] 38)) := (Below.refl _ _).alloc (Nat.le_refl _) _
    have hK9 := Oct.Rd.lit .u32 38 X0 #[.int .u32 (key : Int)] [(key : Int)] rfl
    generalize X0.alloc (.cells #[.int .u32 (key : Int)] 38) = X1 at hB hK9 ⊢
    generalize X0.heap.size = g9 at hK9 ⊢
    have XX1 : Hid (Blk X1 w.heap.size 94 (rsg S key (.slice A m c))) := Lib.hid (XX0.out.below hB XX0.out.lt)
    have EX1 : Hid (Below V.heap.size V X1) := Lib.hid (EX0.out.trans (hB.mono EX0.out.size))
    have KX1 : Hid (Oct.Rd .u32 X1 (some ⟨g9, 0, none⟩) [(key : Int)]) := Lib.hid (hK9)
    clear XX0 EX0 hB hK9
    refine hK.out _ _ (XX1.out) (fun hHeld => ?_)
    clear hK K
    show wpAnyH _ _ _ _ _ _ _ (Act.put _ (some 9) _) _
    simp only [Act.put, List.setIfInBounds_toArray, List.set_cons_zero, List.set_cons_succ]
    refine wpAnyH_ready (rs := [0, 9]) (by kernel_rfl) (by simp) ?_
    refine AllReadyH.cons rfl (fun K hK => ?_) (AllReadyH.cons rfl (fun K hK => ?_) AllReadyH.nil)
    · refine Kt.step_lay rfl 71 0 #[] rfl #[] (by simp) (.slice (some ⟨X1.heap.size, 0, none⟩) 0 0) (X1.alloc (.cells #[] 5)) (by kernel_rfl) ?_
      have hB : Below X1.heap.size X1 (X1.alloc (.cells #[] 5)) := (Below.refl _ _).alloc (Nat.le_refl _) _
      have hP : Oct.Own (X1.alloc (.cells #[] 5)) V.heap.size (.slice (some ⟨X1.heap.size, 0, none⟩) 0 0) [] := own_mono (Own.none_ X1) EX1.out.size
      generalize X1.alloc (.cells #[] 5) = X2 at hB hP ⊢
      obtain ⟨g6, hg6⟩ : ∃ q, X1.heap.size = q := ⟨_, rfl⟩
      rw [hg6] at hP ⊢
      clear hg6
      have XX2 : Hid (Blk X2 w.heap.size 94 (rsg S key (.slice A m c))) := Lib.hid (XX1.out.below hB XX1.out.lt)
      have EX2 : Hid (Below V.heap.size V X2) := Lib.hid (EX1.out.trans (hB.mono EX1.out.size))
      have KX2 : Hid (Oct.Rd .u32 X2 (some ⟨g9, 0, none⟩) [(key : Int)]) := Lib.hid (KX1.out.below hB)
      have PX2 : Hid (Oct.Own X2 V.heap.size (.slice (some ⟨g6, 0, none⟩) 0 0) []) := Lib.hid (hP)
      clear XX1 EX1 KX1 hB hP
      refine hK.out _ _ (XX2.out) (fun hHeld => ?_)
      clear hK K
      show wpAnyH _ _ _ _ _ _ _ (Act.put _ (some 6) _) _
      simp only [Act.put, List.setIfInBounds_toArray, List.set_cons_zero, List.set_cons_succ]
      refine wpAnyH_ready (rs := [4, 9]) (by kernel_rfl) (by simp) ?_
      refine AllReadyH.cons rfl (fun K hK => ?_) (AllReadyH.cons rfl (fun K hK => ?_) AllReadyH.nil)
      · refine step_call rfl 87 #[.tmp 6, .tmp 9] #[71, 82] rfl #[.slice (some ⟨g6, 0, none⟩) 0 0, .slice (some ⟨g9, 0, none⟩) 1 1] (by simp [Act.eval]) (by go_simp) (Oct.four_any (.slice (some ⟨g6, 0, none⟩) 0 0) (some ⟨g9, 0, none⟩) 1 V.heap.size [] [(key : Int)] X2 PX2.out KX2.out (by intro x hx; simp at hx; omega) (by simp) EX2.out.size) ?_
        rintro e X3 ⟨v10, rfl, hP, hG, hL⟩
        have hE2 : Below V.heap.size X2 X3 := Oct.grown_below hG EX2.out.size (fun g hg => (World.ownsRow.lt PX2.out g hg).1)
        have EX3 := Lib.hid (EX2.out.trans hE2)
        have XX3 := Lib.hid (XX2.out.below hE2 hv)
        rw [List.nil_append, ints_four] at hP
        have PX3 := Lib.hid hP
        clear hP hG hL hE2 PX2 EX2 XX2 KX2
        refine ⟨_, rfl, ?_⟩
        refine hK.out _ _ (XX3.out) (fun hHeld => ?_)
        clear hK K
        show wpAnyH _ _ _ _ _ _ _ (Act.put _ (some 10) _) _
        simp only [Act.put, List.setIfInBounds_toArray, List.set_cons_zero, List.set_cons_succ]
        refine wpAnyH_ready (rs := [9]) (by kernel_rfl) (by simp) ?_
        refine AllReadyH.cons rfl (fun K hK => ?_) AllReadyH.nil
        refine Kt.step_lay rfl 30 1 #[(0, .tmp 14)] rfl #[(0, .int .u8 (m : Int))] (by simp [Act.eval]) (.slice (some ⟨X3.heap.size, 0, none⟩) 1 1) (X3.alloc (.cells #[.int .u8 (m : Int)] 5)) (by kernel_rfl) ?_
        have hB : Below X3.heap.size X3 (X3.alloc (.cells #[.int .u8 (m : Int)] 5)) := (Below.refl _ _).alloc (Nat.le_refl _) _
        have hM := Blk.new X3 5 [.int .u8 (m : Int)]
        generalize X3.alloc (.cells #[.int .u8 (m : Int)] 5) = X4 at hB hM ⊢
        obtain ⟨g15, hg15⟩ : ∃ q, X3.heap.size = q := ⟨_, rfl⟩
        rw [hg15] at hM ⊢
        clear hg15
        have XX4 : Hid (Blk X4 w.heap.size 94 (rsg S key (.slice A m c))) := Lib.hid (XX3.out.below hB XX3.out.lt)
        have EX4 : Hid (Below V.heap.size V X4) := Lib.hid (EX3.out.trans (hB.mono EX3.out.size))
        have PX4 : Hid (Oct.Own X4 V.heap.size v10 (ints (four key))) := Lib.hid (own_keepB PX3.out hB)
        have MX4 : Hid (Blk X4 g15 5 [.int .u8 (m : Int)]) := Lib.hid (hM)
        clear XX3 EX3 PX3 hB hM
        refine hK.out _ _ (XX4.out) (fun hHeld => ?_)
        clear hK K
        show wpAnyH _ _ _ _ _ _ _ (Act.put _ (some 15) _) _
        simp only [Act.put, List.setIfInBounds_toArray, List.set_cons_zero, List.set_cons_succ]
        refine wpAnyH_ready (rs := [10]) (by kernel_rfl) (by simp) ?_
        refine AllReadyH.cons rfl (fun K hK => ?_) AllReadyH.nil
        refine step_call rfl 88 #[.tmp 10, .tmp 15] #[71, 30] rfl #[v10, .slice (some ⟨g15, 0, none⟩) 1 1] (by simp [Act.eval]) (by go_simp) (Oct.one_any v10 (some ⟨g15, 0, none⟩) 1 V.heap.size (ints (four key)) (ints [m]) X4 PX4.out (src_one MX4.out) (by simp [ints, four]) EX4.out.size) ?_
        rintro e X5 ⟨v16, rfl, hP, hG, hL⟩
        have hE2 : Below V.heap.size X4 X5 := Oct.grown_below hG EX4.out.size (fun g hg => (World.ownsRow.lt PX4.out g hg).1)
        have EX5 := Lib.hid (EX4.out.trans hE2)
        have XX5 := Lib.hid (XX4.out.below hE2 hv)
        rw [ints_append] at hP
        have PX5 := Lib.hid hP
        clear hP hG hL hE2 PX4 EX4 XX4 MX4
        refine ⟨_, rfl, ?_⟩
        refine hK.out _ _ (XX5.out) (fun hHeld => ?_)
        clear hK K
        show wpAnyH _ _ _ _ _ _ _ (Act.put _ (some 16) _) _
        simp only [Act.put, List.setIfInBounds_toArray, List.set_cons_zero, List.set_cons_succ]
        refine wpAnyH_take (i := 11) (v := v16) rfl (by kernel_rfl) (by kernel_rfl) (by kernel_rfl) (fun _ _ _ h => h) (Or.inl ⟨by rfl, fun w _ => by rfl⟩) hHeld ?_
        show wpAnyH _ _ _ _ _ _ _ (Act.put _ (some 5) _) _
        simp only [Act.put, List.setIfInBounds_toArray, List.set_cons_zero, List.set_cons_succ]
        refine wpAnyH_done (by kernel_rfl) ?_ _
        clear hHeld
        go_upto_region 2 with fail
        have hBz : Below X5.heap.size X5 X5.drew := below_drewN (Below.refl _ _) 1
        have XY0 : Hid (Blk X5.drew w.heap.size 94 (rsg S key (.slice A m c))) := Lib.hid (XX5.out.below hBz XX5.out.lt)
        have EY0 : Hid (Below V.heap.size V X5.drew) := Lib.hid (EX5.out.trans (hBz.mono EX5.out.size))
        have PY0 : Hid (Oct.Own X5.drew V.heap.size v16 (ints (four key ++ [m]))) := Lib.hid (own_keepB PX5.out hBz)
        clear hBz
        refine wp_region_held_drew (S := fun w' => Blk w' w.heap.size 94 (rsg S key (.slice A m c))) (by kernel_rfl) (XY0.out) (fun hHeld => ?_)
        generalize X5.drew = Y0 at hHeld XY0 EY0 PY0 ⊢
        refine wpAnyH_take (i := 0) (v := .pointer (some ⟨w.heap.size, 0, none⟩)) rfl (by kernel_rfl) (by kernel_rfl) (by kernel_rfl) (fun _ _ _ h => h) (Or.inl ⟨by rfl, by intro w' h; go_simp⟩) hHeld ?_
        show wpAnyH _ _ _ _ _ _ _ (Act.put _ (some 17) _) _
        simp only [Act.put, List.setIfInBounds_toArray, List.set_cons_zero, List.set_cons_succ]
        refine wpAnyH_take (i := 1) (v := .agg (w8 S).toArray) rfl (by kernel_rfl) (by kernel_rfl) (by kernel_rfl) (fun _ _ _ h => h) (yieldsIf_load_mid (by rfl) 56 (.tmp 17) rfl w.heap.size 0 rfl (w8 S) _ (fun w' h => rsg_sig h HSL.out) Tryd.underlying56 rfl HIS.out) hHeld ?_
        show wpAnyH _ _ _ _ _ _ _ (Act.put _ (some 18) _) _
        simp only [Act.put, List.setIfInBounds_toArray, List.set_cons_zero, List.set_cons_succ]
        refine wpAnyH_take (i := 2) (v := v16) rfl (by kernel_rfl) (by kernel_rfl) (by kernel_rfl) (fun _ _ _ h => h) (Or.inl ⟨by rfl, fun w _ => by rfl⟩) hHeld ?_
        show wpAnyH _ _ _ _ _ _ _ (Act.put _ (some 19) _) _
        simp only [Act.put, List.setIfInBounds_toArray, List.set_cons_zero, List.set_cons_succ]
        refine wpAnyH_take (i := 4) (v := .pointer (some ⟨w.heap.size, 1025, none⟩)) rfl (by kernel_rfl) (by kernel_rfl) (by kernel_rfl) (fun _ _ _ h => h) (Or.inl ⟨by rfl, by intro w' h; go_simp⟩) hHeld ?_
        show wpAnyH _ _ _ _ _ _ _ (Act.put _ (some 21) _) _
        simp only [Act.put, List.setIfInBounds_toArray, List.set_cons_zero, List.set_cons_succ]
        refine wpAnyH_take (i := 5) (v := .slice A m c) rfl (by kernel_rfl) (by kernel_rfl) (by kernel_rfl) (fun _ _ _ h => h) (Or.inl ⟨by rfl, by intro w' h; have q9 := Blk.cell h 1025; rw [rsg_way _ _ _ HSL.out] at q9; go_simp⟩) hHeld ?_
        show wpAnyH _ _ _ _ _ _ _ (Act.put _ (some 22) _) _
        simp only [Act.put, List.setIfInBounds_toArray, List.set_cons_zero, List.set_cons_succ]
        refine wpAnyH_ready (rs := [3]) (by kernel_rfl) (by simp) ?_
        refine AllReadyH.cons rfl (fun K hK => ?_) AllReadyH.nil
        refine step_call rfl 33 #[.tmp 18, .tmp 19] #[56, 71] rfl #[.agg (w8 S).toArray, v16] (by simp [Act.eval]) (by go_simp) (lay_lamp S v16 V.heap.size (four key ++ [m]) Y0 HSL HSP PY0 EY0.out.size (by simp [four])) ?_
        rintro e X1 ⟨v20, rfl, hP, hG, hL⟩
        have hE2 : Below V.heap.size Y0 X1 := Oct.grown_below hG EY0.out.size (fun g hg => (World.ownsRow.lt PY0.out g hg).1)
        have EX1 := Lib.hid (EY0.out.trans hE2)
        have XX1 := Lib.hid (XY0.out.below hE2 hv)
        have PX1 := Lib.hid hP
        clear hP hG hL hE2 PY0 EY0 XY0
        refine ⟨_, rfl, ?_⟩
        refine hK.out _ _ (XX1.out) (fun hHeld => ?_)
        clear hK K
        show wpAnyH _ _ _ _ _ _ _ (Act.put _ (some 20) _) _
        simp only [Act.put, List.setIfInBounds_toArray, List.set_cons_zero, List.set_cons_succ]
        refine wpAnyH_ready (rs := [6]) (by kernel_rfl) (by simp) ?_
        refine AllReadyH.cons rfl (fun K hK => ?_) AllReadyH.nil
        refine step_call rfl 74 #[.tmp 20, .tmp 22] #[71, 92] rfl #[v20, .slice A m c] (by simp [Act.eval]) (by go_simp) (HSUM.out X1 v20 PX1.out EX1.out) ?_
        rintro e X2 ⟨v23, rfl, hP, hG, hL⟩
        have hE2 : Below V.heap.size X1 X2 := Oct.grown_below hG EX1.out.size (fun g hg => (World.ownsRow.lt PX1.out g hg).1)
        have EX2 := Lib.hid (EX1.out.trans hE2)
        have XX2 := Lib.hid (XX1.out.below hE2 hv)
        have PX2 := Lib.hid hP
        clear hP hG hL hE2 PX1 EX1 XX1
        refine ⟨_, rfl, ?_⟩
        refine hK.out _ _ (XX2.out) (fun hHeld => ?_)
        clear hK K
        show wpAnyH _ _ _ _ _ _ _ (Act.put _ (some 23) _) _
        simp only [Act.put, List.setIfInBounds_toArray, List.set_cons_zero, List.set_cons_succ]
        refine wpAnyH_take (i := 7) (v := v23) rfl (by kernel_rfl) (by kernel_rfl) (by kernel_rfl) (fun _ _ _ h => h) (Or.inl ⟨by rfl, fun w _ => by rfl⟩) hHeld ?_
        show wpAnyH _ _ _ _ _ _ _ (Act.put _ (some 5) _) _
        simp only [Act.put, List.setIfInBounds_toArray, List.set_cons_zero, List.set_cons_succ]
        refine wpAnyH_done (by kernel_rfl) ?_ _
        clear hHeld
        obtain ⟨A3, c3, hv3, hs3⟩ := Oct.Own.src PX2.out
        subst hv3
        have HWZ : Hid (Below w.heap.size w X2) := Lib.hid (BV.out.trans (EX2.out.mono (by omega)))
        have HS3 := Lib.hid hs3
        have HOZ : Hid (Oct.Own X2 base v (ints xs)) := Lib.hid (own_keepB HO.out HWZ.out)
        clear hs3
        go_wp2_with fail
        refine (Oct.one_any v A3 c3 base (ints xs) (ints (rlayN S key q m)) X2 HOZ.out HS3.out (by rw [ints_length, ints_length, rlayN_length S key q m HSL.out HQ.out]; omega) (by have := HWZ.out.size; omega)).mono ?_
        rintro e Z9 ⟨v9, rfl, hP, hG, hL⟩
        rw [ints_append] at hP
        have HF : Hid (w.grownBy Z9 v.ownBlock ∧ Oct.Lies w v v9) := Lib.hid ⟨below_grown HWZ.out hG, lies_up HWZ.out hL⟩
        have HP9 := Lib.hid hP
        clear hP hG hL
        go_wp2
        go_ret
        exact ⟨v9, rfl, HP9.out, HF.out.1, HF.out.2⟩
      · refine Kt.step_lay rfl 30 1 #[(0, .tmp 14)] rfl #[(0, .int .u8 (m : Int))] (by simp [Act.eval]) (.slice (some ⟨X2.heap.size, 0, none⟩) 1 1) (X2.alloc (.cells #[.int .u8 (m : Int)] 5)) (by kernel_rfl) ?_
        have hB : Below X2.heap.size X2 (X2.alloc (.cells #[.int .u8 (m : Int)] 5)) := (Below.refl _ _).alloc (Nat.le_refl _) _
        have hM := Blk.new X2 5 [.int .u8 (m : Int)]
        have hN0 := (World.ownsRow.lt PX2.out g6 rfl).2
        generalize X2.alloc (.cells #[.int .u8 (m : Int)] 5) = X3 at hB hM ⊢
        obtain ⟨g15, hg15⟩ : ∃ q, X2.heap.size = q := ⟨_, rfl⟩
        rw [hg15] at hM ⊢
        have hN : Hid (g15 ≠ g6) := Lib.hid (by omega)
        clear hN0
        clear hg15
        have XX3 : Hid (Blk X3 w.heap.size 94 (rsg S key (.slice A m c))) := Lib.hid (XX2.out.below hB XX2.out.lt)
        have EX3 : Hid (Below V.heap.size V X3) := Lib.hid (EX2.out.trans (hB.mono EX2.out.size))
        have KX3 : Hid (Oct.Rd .u32 X3 (some ⟨g9, 0, none⟩) [(key : Int)]) := Lib.hid (KX2.out.below hB)
        have PX3 : Hid (Oct.Own X3 V.heap.size (.slice (some ⟨g6, 0, none⟩) 0 0) []) := Lib.hid (own_keepB PX2.out hB)
        have MX3 : Hid (Blk X3 g15 5 [.int .u8 (m : Int)]) := Lib.hid (hM)
        clear XX2 EX2 KX2 PX2 hB hM
        refine hK.out _ _ (XX3.out) (fun hHeld => ?_)
        clear hK K
        show wpAnyH _ _ _ _ _ _ _ (Act.put _ (some 15) _) _
        simp only [Act.put, List.setIfInBounds_toArray, List.set_cons_zero, List.set_cons_succ]
        refine wpAnyH_ready (rs := [4]) (by kernel_rfl) (by simp) ?_
        refine AllReadyH.cons rfl (fun K hK => ?_) AllReadyH.nil
        refine step_call rfl 87 #[.tmp 6, .tmp 9] #[71, 82] rfl #[.slice (some ⟨g6, 0, none⟩) 0 0, .slice (some ⟨g9, 0, none⟩) 1 1] (by simp [Act.eval]) (by go_simp) (Oct.four_any (.slice (some ⟨g6, 0, none⟩) 0 0) (some ⟨g9, 0, none⟩) 1 V.heap.size [] [(key : Int)] X3 PX3.out KX3.out (by intro x hx; simp at hx; omega) (by simp) EX3.out.size) ?_
        rintro e X4 ⟨v10, rfl, hP, hG, hL⟩
        have hE2 : Below V.heap.size X3 X4 := Oct.grown_below hG EX3.out.size (fun g hg => (World.ownsRow.lt PX3.out g hg).1)
        have EX4 := Lib.hid (EX3.out.trans hE2)
        have XX4 := Lib.hid (XX3.out.below hE2 hv)
        have MX4 := Lib.hid (MX3.out.grown hG (fun e => by injection e with e; exact hN.out e))
        rw [List.nil_append, ints_four] at hP
        have PX4 := Lib.hid hP
        clear hP hG hL hE2 PX3 EX3 XX3 KX3 MX3 hN
        refine ⟨_, rfl, ?_⟩
        refine hK.out _ _ (XX4.out) (fun hHeld => ?_)
        clear hK K
        show wpAnyH _ _ _ _ _ _ _ (Act.put _ (some 10) _) _
        simp only [Act.put, List.setIfInBounds_toArray, List.set_cons_zero, List.set_cons_succ]
        refine wpAnyH_ready (rs := [10]) (by kernel_rfl) (by simp) ?_
        refine AllReadyH.cons rfl (fun K hK => ?_) AllReadyH.nil
        refine step_call rfl 88 #[.tmp 10, .tmp 15] #[71, 30] rfl #[v10, .slice (some ⟨g15, 0, none⟩) 1 1] (by simp [Act.eval]) (by go_simp) (Oct.one_any v10 (some ⟨g15, 0, none⟩) 1 V.heap.size (ints (four key)) (ints [m]) X4 PX4.out (src_one MX4.out) (by simp [ints, four]) EX4.out.size) ?_
        rintro e X5 ⟨v16, rfl, hP, hG, hL⟩
        have hE2 : Below V.heap.size X4 X5 := Oct.grown_below hG EX4.out.size (fun g hg => (World.ownsRow.lt PX4.out g hg).1)
        have EX5 := Lib.hid (EX4.out.trans hE2)
        have XX5 := Lib.hid (XX4.out.below hE2 hv)
        rw [ints_append] at hP
        have PX5 := Lib.hid hP
        clear hP hG hL hE2 PX4 EX4 XX4 MX4
        refine ⟨_, rfl, ?_⟩
        refine hK.out _ _ (XX5.out) (fun hHeld => ?_)
        clear hK K
        show wpAnyH _ _ _ _ _ _ _ (Act.put _ (some 16) _) _
        simp only [Act.put, List.setIfInBounds_toArray, List.set_cons_zero, List.set_cons_succ]
        refine wpAnyH_take (i := 11) (v := v16) rfl (by kernel_rfl) (by kernel_rfl) (by kernel_rfl) (fun _ _ _ h => h) (Or.inl ⟨by rfl, fun w _ => by rfl⟩) hHeld ?_
        show wpAnyH _ _ _ _ _ _ _ (Act.put _ (some 5) _) _
        simp only [Act.put, List.setIfInBounds_toArray, List.set_cons_zero, List.set_cons_succ]
        refine wpAnyH_done (by kernel_rfl) ?_ _
        clear hHeld
        go_upto_region 2 with fail
        have hBz : Below X5.heap.size X5 X5.drew := below_drewN (Below.refl _ _) 1
        have XY0 : Hid (Blk X5.drew w.heap.size 94 (rsg S key (.slice A m c))) := Lib.hid (XX5.out.below hBz XX5.out.lt)
        have EY0 : Hid (Below V.heap.size V X5.drew) := Lib.hid (EX5.out.trans (hBz.mono EX5.out.size))
        have PY0 : Hid (Oct.Own X5.drew V.heap.size v16 (ints (four key ++ [m]))) := Lib.hid (own_keepB PX5.out hBz)
        clear hBz
        refine wp_region_held_drew (S := fun w' => Blk w' w.heap.size 94 (rsg S key (.slice A m c))) (by kernel_rfl) (XY0.out) (fun hHeld => ?_)
        generalize X5.drew = Y0 at hHeld XY0 EY0 PY0 ⊢
        refine wpAnyH_take (i := 0) (v := .pointer (some ⟨w.heap.size, 0, none⟩)) rfl (by kernel_rfl) (by kernel_rfl) (by kernel_rfl) (fun _ _ _ h => h) (Or.inl ⟨by rfl, by intro w' h; go_simp⟩) hHeld ?_
        show wpAnyH _ _ _ _ _ _ _ (Act.put _ (some 17) _) _
        simp only [Act.put, List.setIfInBounds_toArray, List.set_cons_zero, List.set_cons_succ]
        refine wpAnyH_take (i := 1) (v := .agg (w8 S).toArray) rfl (by kernel_rfl) (by kernel_rfl) (by kernel_rfl) (fun _ _ _ h => h) (yieldsIf_load_mid (by rfl) 56 (.tmp 17) rfl w.heap.size 0 rfl (w8 S) _ (fun w' h => rsg_sig h HSL.out) Tryd.underlying56 rfl HIS.out) hHeld ?_
        show wpAnyH _ _ _ _ _ _ _ (Act.put _ (some 18) _) _
        simp only [Act.put, List.setIfInBounds_toArray, List.set_cons_zero, List.set_cons_succ]
        refine wpAnyH_take (i := 2) (v := v16) rfl (by kernel_rfl) (by kernel_rfl) (by kernel_rfl) (fun _ _ _ h => h) (Or.inl ⟨by rfl, fun w _ => by rfl⟩) hHeld ?_
        show wpAnyH _ _ _ _ _ _ _ (Act.put _ (some 19) _) _
        simp only [Act.put, List.setIfInBounds_toArray, List.set_cons_zero, List.set_cons_succ]
        refine wpAnyH_take (i := 4) (v := .pointer (some ⟨w.heap.size, 1025, none⟩)) rfl (by kernel_rfl) (by kernel_rfl) (by kernel_rfl) (fun _ _ _ h => h) (Or.inl ⟨by rfl, by intro w' h; go_simp⟩) hHeld ?_
        show wpAnyH _ _ _ _ _ _ _ (Act.put _ (some 21) _) _
        simp only [Act.put, List.setIfInBounds_toArray, List.set_cons_zero, List.set_cons_succ]
        refine wpAnyH_take (i := 5) (v := .slice A m c) rfl (by kernel_rfl) (by kernel_rfl) (by kernel_rfl) (fun _ _ _ h => h) (Or.inl ⟨by rfl, by intro w' h; have q9 := Blk.cell h 1025; rw [rsg_way _ _ _ HSL.out] at q9; go_simp⟩) hHeld ?_
        show wpAnyH _ _ _ _ _ _ _ (Act.put _ (some 22) _) _
        simp only [Act.put, List.setIfInBounds_toArray, List.set_cons_zero, List.set_cons_succ]
        refine wpAnyH_ready (rs := [3]) (by kernel_rfl) (by simp) ?_
        refine AllReadyH.cons rfl (fun K hK => ?_) AllReadyH.nil
        refine step_call rfl 33 #[.tmp 18, .tmp 19] #[56, 71] rfl #[.agg (w8 S).toArray, v16] (by simp [Act.eval]) (by go_simp) (lay_lamp S v16 V.heap.size (four key ++ [m]) Y0 HSL HSP PY0 EY0.out.size (by simp [four])) ?_
        rintro e X1 ⟨v20, rfl, hP, hG, hL⟩
        have hE2 : Below V.heap.size Y0 X1 := Oct.grown_below hG EY0.out.size (fun g hg => (World.ownsRow.lt PY0.out g hg).1)
        have EX1 := Lib.hid (EY0.out.trans hE2)
        have XX1 := Lib.hid (XY0.out.below hE2 hv)
        have PX1 := Lib.hid hP
        clear hP hG hL hE2 PY0 EY0 XY0
        refine ⟨_, rfl, ?_⟩
        refine hK.out _ _ (XX1.out) (fun hHeld => ?_)
        clear hK K
        show wpAnyH _ _ _ _ _ _ _ (Act.put _ (some 20) _) _
        simp only [Act.put, List.setIfInBounds_toArray, List.set_cons_zero, List.set_cons_succ]
        refine wpAnyH_ready (rs := [6]) (by kernel_rfl) (by simp) ?_
        refine AllReadyH.cons rfl (fun K hK => ?_) AllReadyH.nil
        refine step_call rfl 74 #[.tmp 20, .tmp 22] #[71, 92] rfl #[v20, .slice A m c] (by simp [Act.eval]) (by go_simp) (HSUM.out X1 v20 PX1.out EX1.out) ?_
        rintro e X2 ⟨v23, rfl, hP, hG, hL⟩
        have hE2 : Below V.heap.size X1 X2 := Oct.grown_below hG EX1.out.size (fun g hg => (World.ownsRow.lt PX1.out g hg).1)
        have EX2 := Lib.hid (EX1.out.trans hE2)
        have XX2 := Lib.hid (XX1.out.below hE2 hv)
        have PX2 := Lib.hid hP
        clear hP hG hL hE2 PX1 EX1 XX1
        refine ⟨_, rfl, ?_⟩
        refine hK.out _ _ (XX2.out) (fun hHeld => ?_)
        clear hK K
        show wpAnyH _ _ _ _ _ _ _ (Act.put _ (some 23) _) _
        simp only [Act.put, List.setIfInBounds_toArray, List.set_cons_zero, List.set_cons_succ]
        refine wpAnyH_take (i := 7) (v := v23) rfl (by kernel_rfl) (by kernel_rfl) (by kernel_rfl) (fun _ _ _ h => h) (Or.inl ⟨by rfl, fun w _ => by rfl⟩) hHeld ?_
        show wpAnyH _ _ _ _ _ _ _ (Act.put _ (some 5) _) _
        simp only [Act.put, List.setIfInBounds_toArray, List.set_cons_zero, List.set_cons_succ]
        refine wpAnyH_done (by kernel_rfl) ?_ _
        clear hHeld
        obtain ⟨A3, c3, hv3, hs3⟩ := Oct.Own.src PX2.out
        subst hv3
        have HWZ : Hid (Below w.heap.size w X2) := Lib.hid (BV.out.trans (EX2.out.mono (by omega)))
        have HS3 := Lib.hid hs3
        have HOZ : Hid (Oct.Own X2 base v (ints xs)) := Lib.hid (own_keepB HO.out HWZ.out)
        clear hs3
        go_wp2_with fail
        refine (Oct.one_any v A3 c3 base (ints xs) (ints (rlayN S key q m)) X2 HOZ.out HS3.out (by rw [ints_length, ints_length, rlayN_length S key q m HSL.out HQ.out]; omega) (by have := HWZ.out.size; omega)).mono ?_
        rintro e Z9 ⟨v9, rfl, hP, hG, hL⟩
        rw [ints_append] at hP
        have HF : Hid (w.grownBy Z9 v.ownBlock ∧ Oct.Lies w v v9) := Lib.hid ⟨below_grown HWZ.out hG, lies_up HWZ.out hL⟩
        have HP9 := Lib.hid hP
        clear hP hG hL
        go_wp2
        go_ret
        exact ⟨v9, rfl, HP9.out, HF.out.1, HF.out.2⟩
    · refine Kt.step_lay rfl 30 1 #[(0, .tmp 14)] rfl #[(0, .int .u8 (m : Int))] (by simp [Act.eval]) (.slice (some ⟨X1.heap.size, 0, none⟩) 1 1) (X1.alloc (.cells #[.int .u8 (m : Int)] 5)) (by kernel_rfl) ?_
      have hB : Below X1.heap.size X1 (X1.alloc (.cells #[.int .u8 (m : Int)] 5)) := (Below.refl _ _).alloc (Nat.le_refl _) _
      have hM := Blk.new X1 5 [.int .u8 (m : Int)]
      generalize X1.alloc (.cells #[.int .u8 (m : Int)] 5) = X2 at hB hM ⊢
      obtain ⟨g15, hg15⟩ : ∃ q, X1.heap.size = q := ⟨_, rfl⟩
      rw [hg15] at hM ⊢
      clear hg15
      have XX2 : Hid (Blk X2 w.heap.size 94 (rsg S key (.slice A m c))) := Lib.hid (XX1.out.below hB XX1.out.lt)
      have EX2 : Hid (Below V.heap.size V X2) := Lib.hid (EX1.out.trans (hB.mono EX1.out.size))
      have KX2 : Hid (Oct.Rd .u32 X2 (some ⟨g9, 0, none⟩) [(key : Int)]) := Lib.hid (KX1.out.below hB)
      have MX2 : Hid (Blk X2 g15 5 [.int .u8 (m : Int)]) := Lib.hid (hM)
      clear XX1 EX1 KX1 hB hM
      refine hK.out _ _ (XX2.out) (fun hHeld => ?_)
      clear hK K
      show wpAnyH _ _ _ _ _ _ _ (Act.put _ (some 15) _) _
      simp only [Act.put, List.setIfInBounds_toArray, List.set_cons_zero, List.set_cons_succ]
      refine wpAnyH_ready (rs := [0]) (by kernel_rfl) (by simp) ?_
      refine AllReadyH.cons rfl (fun K hK => ?_) AllReadyH.nil
      refine Kt.step_lay rfl 71 0 #[] rfl #[] (by simp) (.slice (some ⟨X2.heap.size, 0, none⟩) 0 0) (X2.alloc (.cells #[] 5)) (by kernel_rfl) ?_
      have hB : Below X2.heap.size X2 (X2.alloc (.cells #[] 5)) := (Below.refl _ _).alloc (Nat.le_refl _) _
      have hP : Oct.Own (X2.alloc (.cells #[] 5)) V.heap.size (.slice (some ⟨X2.heap.size, 0, none⟩) 0 0) [] := own_mono (Own.none_ X2) EX2.out.size
      have hN0 := MX2.out.lt
      generalize X2.alloc (.cells #[] 5) = X3 at hB hP ⊢
      obtain ⟨g6, hg6⟩ : ∃ q, X2.heap.size = q := ⟨_, rfl⟩
      rw [hg6] at hP ⊢
      have hN : Hid (g15 ≠ g6) := Lib.hid (by omega)
      clear hN0
      clear hg6
      have XX3 : Hid (Blk X3 w.heap.size 94 (rsg S key (.slice A m c))) := Lib.hid (XX2.out.below hB XX2.out.lt)
      have EX3 : Hid (Below V.heap.size V X3) := Lib.hid (EX2.out.trans (hB.mono EX2.out.size))
      have KX3 : Hid (Oct.Rd .u32 X3 (some ⟨g9, 0, none⟩) [(key : Int)]) := Lib.hid (KX2.out.below hB)
      have MX3 : Hid (Blk X3 g15 5 [.int .u8 (m : Int)]) := Lib.hid (MX2.out.below hB MX2.out.lt)
      have PX3 : Hid (Oct.Own X3 V.heap.size (.slice (some ⟨g6, 0, none⟩) 0 0) []) := Lib.hid (hP)
      clear XX2 EX2 KX2 MX2 hB hP
      refine hK.out _ _ (XX3.out) (fun hHeld => ?_)
      clear hK K
      show wpAnyH _ _ _ _ _ _ _ (Act.put _ (some 6) _) _
      simp only [Act.put, List.setIfInBounds_toArray, List.set_cons_zero, List.set_cons_succ]
      refine wpAnyH_ready (rs := [4]) (by kernel_rfl) (by simp) ?_
      refine AllReadyH.cons rfl (fun K hK => ?_) AllReadyH.nil
      refine step_call rfl 87 #[.tmp 6, .tmp 9] #[71, 82] rfl #[.slice (some ⟨g6, 0, none⟩) 0 0, .slice (some ⟨g9, 0, none⟩) 1 1] (by simp [Act.eval]) (by go_simp) (Oct.four_any (.slice (some ⟨g6, 0, none⟩) 0 0) (some ⟨g9, 0, none⟩) 1 V.heap.size [] [(key : Int)] X3 PX3.out KX3.out (by intro x hx; simp at hx; omega) (by simp) EX3.out.size) ?_
      rintro e X4 ⟨v10, rfl, hP, hG, hL⟩
      have hE2 : Below V.heap.size X3 X4 := Oct.grown_below hG EX3.out.size (fun g hg => (World.ownsRow.lt PX3.out g hg).1)
      have EX4 := Lib.hid (EX3.out.trans hE2)
      have XX4 := Lib.hid (XX3.out.below hE2 hv)
      have MX4 := Lib.hid (MX3.out.grown hG (fun e => by injection e with e; exact hN.out e))
      rw [List.nil_append, ints_four] at hP
      have PX4 := Lib.hid hP
      clear hP hG hL hE2 PX3 EX3 XX3 KX3 MX3 hN
      refine ⟨_, rfl, ?_⟩
      refine hK.out _ _ (XX4.out) (fun hHeld => ?_)
      clear hK K
      show wpAnyH _ _ _ _ _ _ _ (Act.put _ (some 10) _) _
      simp only [Act.put, List.setIfInBounds_toArray, List.set_cons_zero, List.set_cons_succ]
      refine wpAnyH_ready (rs := [10]) (by kernel_rfl) (by simp) ?_
      refine AllReadyH.cons rfl (fun K hK => ?_) AllReadyH.nil
      refine step_call rfl 88 #[.tmp 10, .tmp 15] #[71, 30] rfl #[v10, .slice (some ⟨g15, 0, none⟩) 1 1] (by simp [Act.eval]) (by go_simp) (Oct.one_any v10 (some ⟨g15, 0, none⟩) 1 V.heap.size (ints (four key)) (ints [m]) X4 PX4.out (src_one MX4.out) (by simp [ints, four]) EX4.out.size) ?_
      rintro e X5 ⟨v16, rfl, hP, hG, hL⟩
      have hE2 : Below V.heap.size X4 X5 := Oct.grown_below hG EX4.out.size (fun g hg => (World.ownsRow.lt PX4.out g hg).1)
      have EX5 := Lib.hid (EX4.out.trans hE2)
      have XX5 := Lib.hid (XX4.out.below hE2 hv)
      rw [ints_append] at hP
      have PX5 := Lib.hid hP
      clear hP hG hL hE2 PX4 EX4 XX4 MX4
      refine ⟨_, rfl, ?_⟩
      refine hK.out _ _ (XX5.out) (fun hHeld => ?_)
      clear hK K
      show wpAnyH _ _ _ _ _ _ _ (Act.put _ (some 16) _) _
      simp only [Act.put, List.setIfInBounds_toArray, List.set_cons_zero, List.set_cons_succ]
      refine wpAnyH_take (i := 11) (v := v16) rfl (by kernel_rfl) (by kernel_rfl) (by kernel_rfl) (fun _ _ _ h => h) (Or.inl ⟨by rfl, fun w _ => by rfl⟩) hHeld ?_
      show wpAnyH _ _ _ _ _ _ _ (Act.put _ (some 5) _) _
      simp only [Act.put, List.setIfInBounds_toArray, List.set_cons_zero, List.set_cons_succ]
      refine wpAnyH_done (by kernel_rfl) ?_ _
      clear hHeld
      go_upto_region 2 with fail
      have hBz : Below X5.heap.size X5 X5.drew := below_drewN (Below.refl _ _) 1
      have XY0 : Hid (Blk X5.drew w.heap.size 94 (rsg S key (.slice A m c))) := Lib.hid (XX5.out.below hBz XX5.out.lt)
      have EY0 : Hid (Below V.heap.size V X5.drew) := Lib.hid (EX5.out.trans (hBz.mono EX5.out.size))
      have PY0 : Hid (Oct.Own X5.drew V.heap.size v16 (ints (four key ++ [m]))) := Lib.hid (own_keepB PX5.out hBz)
      clear hBz
      refine wp_region_held_drew (S := fun w' => Blk w' w.heap.size 94 (rsg S key (.slice A m c))) (by kernel_rfl) (XY0.out) (fun hHeld => ?_)
      generalize X5.drew = Y0 at hHeld XY0 EY0 PY0 ⊢
      refine wpAnyH_take (i := 0) (v := .pointer (some ⟨w.heap.size, 0, none⟩)) rfl (by kernel_rfl) (by kernel_rfl) (by kernel_rfl) (fun _ _ _ h => h) (Or.inl ⟨by rfl, by intro w' h; go_simp⟩) hHeld ?_
      show wpAnyH _ _ _ _ _ _ _ (Act.put _ (some 17) _) _
      simp only [Act.put, List.setIfInBounds_toArray, List.set_cons_zero, List.set_cons_succ]
      refine wpAnyH_take (i := 1) (v := .agg (w8 S).toArray) rfl (by kernel_rfl) (by kernel_rfl) (by kernel_rfl) (fun _ _ _ h => h) (yieldsIf_load_mid (by rfl) 56 (.tmp 17) rfl w.heap.size 0 rfl (w8 S) _ (fun w' h => rsg_sig h HSL.out) Tryd.underlying56 rfl HIS.out) hHeld ?_
      show wpAnyH _ _ _ _ _ _ _ (Act.put _ (some 18) _) _
      simp only [Act.put, List.setIfInBounds_toArray, List.set_cons_zero, List.set_cons_succ]
      refine wpAnyH_take (i := 2) (v := v16) rfl (by kernel_rfl) (by kernel_rfl) (by kernel_rfl) (fun _ _ _ h => h) (Or.inl ⟨by rfl, fun w _ => by rfl⟩) hHeld ?_
      show wpAnyH _ _ _ _ _ _ _ (Act.put _ (some 19) _) _
      simp only [Act.put, List.setIfInBounds_toArray, List.set_cons_zero, List.set_cons_succ]
      refine wpAnyH_take (i := 4) (v := .pointer (some ⟨w.heap.size, 1025, none⟩)) rfl (by kernel_rfl) (by kernel_rfl) (by kernel_rfl) (fun _ _ _ h => h) (Or.inl ⟨by rfl, by intro w' h; go_simp⟩) hHeld ?_
      show wpAnyH _ _ _ _ _ _ _ (Act.put _ (some 21) _) _
      simp only [Act.put, List.setIfInBounds_toArray, List.set_cons_zero, List.set_cons_succ]
      refine wpAnyH_take (i := 5) (v := .slice A m c) rfl (by kernel_rfl) (by kernel_rfl) (by kernel_rfl) (fun _ _ _ h => h) (Or.inl ⟨by rfl, by intro w' h; have q9 := Blk.cell h 1025; rw [rsg_way _ _ _ HSL.out] at q9; go_simp⟩) hHeld ?_
      show wpAnyH _ _ _ _ _ _ _ (Act.put _ (some 22) _) _
      simp only [Act.put, List.setIfInBounds_toArray, List.set_cons_zero, List.set_cons_succ]
      refine wpAnyH_ready (rs := [3]) (by kernel_rfl) (by simp) ?_
      refine AllReadyH.cons rfl (fun K hK => ?_) AllReadyH.nil
      refine step_call rfl 33 #[.tmp 18, .tmp 19] #[56, 71] rfl #[.agg (w8 S).toArray, v16] (by simp [Act.eval]) (by go_simp) (lay_lamp S v16 V.heap.size (four key ++ [m]) Y0 HSL HSP PY0 EY0.out.size (by simp [four])) ?_
      rintro e X1 ⟨v20, rfl, hP, hG, hL⟩
      have hE2 : Below V.heap.size Y0 X1 := Oct.grown_below hG EY0.out.size (fun g hg => (World.ownsRow.lt PY0.out g hg).1)
      have EX1 := Lib.hid (EY0.out.trans hE2)
      have XX1 := Lib.hid (XY0.out.below hE2 hv)
      have PX1 := Lib.hid hP
      clear hP hG hL hE2 PY0 EY0 XY0
      refine ⟨_, rfl, ?_⟩
      refine hK.out _ _ (XX1.out) (fun hHeld => ?_)
      clear hK K
      show wpAnyH _ _ _ _ _ _ _ (Act.put _ (some 20) _) _
      simp only [Act.put, List.setIfInBounds_toArray, List.set_cons_zero, List.set_cons_succ]
      refine wpAnyH_ready (rs := [6]) (by kernel_rfl) (by simp) ?_
      refine AllReadyH.cons rfl (fun K hK => ?_) AllReadyH.nil
      refine step_call rfl 74 #[.tmp 20, .tmp 22] #[71, 92] rfl #[v20, .slice A m c] (by simp [Act.eval]) (by go_simp) (HSUM.out X1 v20 PX1.out EX1.out) ?_
      rintro e X2 ⟨v23, rfl, hP, hG, hL⟩
      have hE2 : Below V.heap.size X1 X2 := Oct.grown_below hG EX1.out.size (fun g hg => (World.ownsRow.lt PX1.out g hg).1)
      have EX2 := Lib.hid (EX1.out.trans hE2)
      have XX2 := Lib.hid (XX1.out.below hE2 hv)
      have PX2 := Lib.hid hP
      clear hP hG hL hE2 PX1 EX1 XX1
      refine ⟨_, rfl, ?_⟩
      refine hK.out _ _ (XX2.out) (fun hHeld => ?_)
      clear hK K
      show wpAnyH _ _ _ _ _ _ _ (Act.put _ (some 23) _) _
      simp only [Act.put, List.setIfInBounds_toArray, List.set_cons_zero, List.set_cons_succ]
      refine wpAnyH_take (i := 7) (v := v23) rfl (by kernel_rfl) (by kernel_rfl) (by kernel_rfl) (fun _ _ _ h => h) (Or.inl ⟨by rfl, fun w _ => by rfl⟩) hHeld ?_
      show wpAnyH _ _ _ _ _ _ _ (Act.put _ (some 5) _) _
      simp only [Act.put, List.setIfInBounds_toArray, List.set_cons_zero, List.set_cons_succ]
      refine wpAnyH_done (by kernel_rfl) ?_ _
      clear hHeld
      obtain ⟨A3, c3, hv3, hs3⟩ := Oct.Own.src PX2.out
      subst hv3
      have HWZ : Hid (Below w.heap.size w X2) := Lib.hid (BV.out.trans (EX2.out.mono (by omega)))
      have HS3 := Lib.hid hs3
      have HOZ : Hid (Oct.Own X2 base v (ints xs)) := Lib.hid (own_keepB HO.out HWZ.out)
      clear hs3
      go_wp2_with fail
      refine (Oct.one_any v A3 c3 base (ints xs) (ints (rlayN S key q m)) X2 HOZ.out HS3.out (by rw [ints_length, ints_length, rlayN_length S key q m HSL.out HQ.out]; omega) (by have := HWZ.out.size; omega)).mono ?_
      rintro e Z9 ⟨v9, rfl, hP, hG, hL⟩
      rw [ints_append] at hP
      have HF : Hid (w.grownBy Z9 v.ownBlock ∧ Oct.Lies w v v9) := Lib.hid ⟨below_grown HWZ.out hG, lies_up HWZ.out hL⟩
      have HP9 := Lib.hid hP
      clear hP hG hL
      go_wp2
      go_ret
      exact ⟨v9, rfl, HP9.out, HF.out.1, HF.out.2⟩
  · refine Kt.step_lay rfl 30 1 #[(0, .tmp 14)] rfl #[(0, .int .u8 (m : Int))] (by simp [Act.eval]) (.slice (some ⟨X0.heap.size, 0, none⟩) 1 1) (X0.alloc (.cells #[.int .u8 (m : Int)] 5)) (by kernel_rfl) ?_
    have hB : Below X0.heap.size X0 (X0.alloc (.cells #[.int .u8 (m : Int)] 5)) := (Below.refl _ _).alloc (Nat.le_refl _) _
    have hM := Blk.new X0 5 [.int .u8 (m : Int)]
    generalize X0.alloc (.cells #[.int .u8 (m : Int)] 5) = X1 at hB hM ⊢
    obtain ⟨g15, hg15⟩ : ∃ q, X0.heap.size = q := ⟨_, rfl⟩
    rw [hg15] at hM ⊢
    clear hg15
    have XX1 : Hid (Blk X1 w.heap.size 94 (rsg S key (.slice A m c))) := Lib.hid (XX0.out.below hB XX0.out.lt)
    have EX1 : Hid (Below V.heap.size V X1) := Lib.hid (EX0.out.trans (hB.mono EX0.out.size))
    have MX1 : Hid (Blk X1 g15 5 [.int .u8 (m : Int)]) := Lib.hid (hM)
    clear XX0 EX0 hB hM
    refine hK.out _ _ (XX1.out) (fun hHeld => ?_)
    clear hK K
    show wpAnyH _ _ _ _ _ _ _ (Act.put _ (some 15) _) _
    simp only [Act.put, List.setIfInBounds_toArray, List.set_cons_zero, List.set_cons_succ]
    refine wpAnyH_ready (rs := [0, 3]) (by kernel_rfl) (by simp) ?_
    refine AllReadyH.cons rfl (fun K hK => ?_) (AllReadyH.cons rfl (fun K hK => ?_) AllReadyH.nil)
    · refine Kt.step_lay rfl 71 0 #[] rfl #[] (by simp) (.slice (some ⟨X1.heap.size, 0, none⟩) 0 0) (X1.alloc (.cells #[] 5)) (by kernel_rfl) ?_
      have hB : Below X1.heap.size X1 (X1.alloc (.cells #[] 5)) := (Below.refl _ _).alloc (Nat.le_refl _) _
      have hP : Oct.Own (X1.alloc (.cells #[] 5)) V.heap.size (.slice (some ⟨X1.heap.size, 0, none⟩) 0 0) [] := own_mono (Own.none_ X1) EX1.out.size
      have hN0 := MX1.out.lt
      generalize X1.alloc (.cells #[] 5) = X2 at hB hP ⊢
      obtain ⟨g6, hg6⟩ : ∃ q, X1.heap.size = q := ⟨_, rfl⟩
      rw [hg6] at hP ⊢
      have hN : Hid (g15 ≠ g6) := Lib.hid (by omega)
      clear hN0
      clear hg6
      have XX2 : Hid (Blk X2 w.heap.size 94 (rsg S key (.slice A m c))) := Lib.hid (XX1.out.below hB XX1.out.lt)
      have EX2 : Hid (Below V.heap.size V X2) := Lib.hid (EX1.out.trans (hB.mono EX1.out.size))
      have MX2 : Hid (Blk X2 g15 5 [.int .u8 (m : Int)]) := Lib.hid (MX1.out.below hB MX1.out.lt)
      have PX2 : Hid (Oct.Own X2 V.heap.size (.slice (some ⟨g6, 0, none⟩) 0 0) []) := Lib.hid (hP)
      clear XX1 EX1 MX1 hB hP
      refine hK.out _ _ (XX2.out) (fun hHeld => ?_)
      clear hK K
      show wpAnyH _ _ _ _ _ _ _ (Act.put _ (some 6) _) _
      simp only [Act.put, List.setIfInBounds_toArray, List.set_cons_zero, List.set_cons_succ]
      refine wpAnyH_ready (rs := [3]) (by kernel_rfl) (by simp) ?_
      refine AllReadyH.cons rfl (fun K hK => ?_) AllReadyH.nil
      refine Kt.step_lay rfl 82 1 #[(0, .tmp 8)] rfl #[(0, .int .u32 (key : Int))] (by simp [Act.eval]) (.slice (some ⟨X2.heap.size, 0, none⟩) 1 1) (X2.alloc (.cells #[.int .u32 (key : Int)] 38)) (by kernel_rfl) ?_
      have hB : Below X2.heap.size X2 (X2.alloc (.cells #[.int .u32 (key : Int)] 38)) := (Below.refl _ _).alloc (Nat.le_refl _) _
      have hK9 := Oct.Rd.lit .u32 38 X2 #[.int .u32 (key : Int)] [(key : Int)] rfl
      generalize X2.alloc (.cells #[.int .u32 (key : Int)] 38) = X3 at hB hK9 ⊢
      generalize X2.heap.size = g9 at hK9 ⊢
      have XX3 : Hid (Blk X3 w.heap.size 94 (rsg S key (.slice A m c))) := Lib.hid (XX2.out.below hB XX2.out.lt)
      have EX3 : Hid (Below V.heap.size V X3) := Lib.hid (EX2.out.trans (hB.mono EX2.out.size))
      have MX3 : Hid (Blk X3 g15 5 [.int .u8 (m : Int)]) := Lib.hid (MX2.out.below hB MX2.out.lt)
      have PX3 : Hid (Oct.Own X3 V.heap.size (.slice (some ⟨g6, 0, none⟩) 0 0) []) := Lib.hid (own_keepB PX2.out hB)
      have KX3 : Hid (Oct.Rd .u32 X3 (some ⟨g9, 0, none⟩) [(key : Int)]) := Lib.hid (hK9)
      clear XX2 EX2 MX2 PX2 hB hK9
      refine hK.out _ _ (XX3.out) (fun hHeld => ?_)
      clear hK K
      show wpAnyH _ _ _ _ _ _ _ (Act.put _ (some 9) _) _
      simp only [Act.put, List.setIfInBounds_toArray, List.set_cons_zero, List.set_cons_succ]
      refine wpAnyH_ready (rs := [4]) (by kernel_rfl) (by simp) ?_
      refine AllReadyH.cons rfl (fun K hK => ?_) AllReadyH.nil
      refine step_call rfl 87 #[.tmp 6, .tmp 9] #[71, 82] rfl #[.slice (some ⟨g6, 0, none⟩) 0 0, .slice (some ⟨g9, 0, none⟩) 1 1] (by simp [Act.eval]) (by go_simp) (Oct.four_any (.slice (some ⟨g6, 0, none⟩) 0 0) (some ⟨g9, 0, none⟩) 1 V.heap.size [] [(key : Int)] X3 PX3.out KX3.out (by intro x hx; simp at hx; omega) (by simp) EX3.out.size) ?_
      rintro e X4 ⟨v10, rfl, hP, hG, hL⟩
      have hE2 : Below V.heap.size X3 X4 := Oct.grown_below hG EX3.out.size (fun g hg => (World.ownsRow.lt PX3.out g hg).1)
      have EX4 := Lib.hid (EX3.out.trans hE2)
      have XX4 := Lib.hid (XX3.out.below hE2 hv)
      have MX4 := Lib.hid (MX3.out.grown hG (fun e => by injection e with e; exact hN.out e))
      rw [List.nil_append, ints_four] at hP
      have PX4 := Lib.hid hP
      clear hP hG hL hE2 PX3 EX3 XX3 KX3 MX3 hN
      refine ⟨_, rfl, ?_⟩
      refine hK.out _ _ (XX4.out) (fun hHeld => ?_)
      clear hK K
      show wpAnyH _ _ _ _ _ _ _ (Act.put _ (some 10) _) _
      simp only [Act.put, List.setIfInBounds_toArray, List.set_cons_zero, List.set_cons_succ]
      refine wpAnyH_ready (rs := [10]) (by kernel_rfl) (by simp) ?_
      refine AllReadyH.cons rfl (fun K hK => ?_) AllReadyH.nil
      refine step_call rfl 88 #[.tmp 10, .tmp 15] #[71, 30] rfl #[v10, .slice (some ⟨g15, 0, none⟩) 1 1] (by simp [Act.eval]) (by go_simp) (Oct.one_any v10 (some ⟨g15, 0, none⟩) 1 V.heap.size (ints (four key)) (ints [m]) X4 PX4.out (src_one MX4.out) (by simp [ints, four]) EX4.out.size) ?_
      rintro e X5 ⟨v16, rfl, hP, hG, hL⟩
      have hE2 : Below V.heap.size X4 X5 := Oct.grown_below hG EX4.out.size (fun g hg => (World.ownsRow.lt PX4.out g hg).1)
      have EX5 := Lib.hid (EX4.out.trans hE2)
      have XX5 := Lib.hid (XX4.out.below hE2 hv)
      rw [ints_append] at hP
      have PX5 := Lib.hid hP
      clear hP hG hL hE2 PX4 EX4 XX4 MX4
      refine ⟨_, rfl, ?_⟩
      refine hK.out _ _ (XX5.out) (fun hHeld => ?_)
      clear hK K
      show wpAnyH _ _ _ _ _ _ _ (Act.put _ (some 16) _) _
      simp only [Act.put, List.setIfInBounds_toArray, List.set_cons_zero, List.set_cons_succ]
      refine wpAnyH_take (i := 11) (v := v16) rfl (by kernel_rfl) (by kernel_rfl) (by kernel_rfl) (fun _ _ _ h => h) (Or.inl ⟨by rfl, fun w _ => by rfl⟩) hHeld ?_
      show wpAnyH _ _ _ _ _ _ _ (Act.put _ (some 5) _) _
      simp only [Act.put, List.setIfInBounds_toArray, List.set_cons_zero, List.set_cons_succ]
      refine wpAnyH_done (by kernel_rfl) ?_ _
      clear hHeld
      go_upto_region 2 with fail
      have hBz : Below X5.heap.size X5 X5.drew := below_drewN (Below.refl _ _) 1
      have XY0 : Hid (Blk X5.drew w.heap.size 94 (rsg S key (.slice A m c))) := Lib.hid (XX5.out.below hBz XX5.out.lt)
      have EY0 : Hid (Below V.heap.size V X5.drew) := Lib.hid (EX5.out.trans (hBz.mono EX5.out.size))
      have PY0 : Hid (Oct.Own X5.drew V.heap.size v16 (ints (four key ++ [m]))) := Lib.hid (own_keepB PX5.out hBz)
      clear hBz
      refine wp_region_held_drew (S := fun w' => Blk w' w.heap.size 94 (rsg S key (.slice A m c))) (by kernel_rfl) (XY0.out) (fun hHeld => ?_)
      generalize X5.drew = Y0 at hHeld XY0 EY0 PY0 ⊢
      refine wpAnyH_take (i := 0) (v := .pointer (some ⟨w.heap.size, 0, none⟩)) rfl (by kernel_rfl) (by kernel_rfl) (by kernel_rfl) (fun _ _ _ h => h) (Or.inl ⟨by rfl, by intro w' h; go_simp⟩) hHeld ?_
      show wpAnyH _ _ _ _ _ _ _ (Act.put _ (some 17) _) _
      simp only [Act.put, List.setIfInBounds_toArray, List.set_cons_zero, List.set_cons_succ]
      refine wpAnyH_take (i := 1) (v := .agg (w8 S).toArray) rfl (by kernel_rfl) (by kernel_rfl) (by kernel_rfl) (fun _ _ _ h => h) (yieldsIf_load_mid (by rfl) 56 (.tmp 17) rfl w.heap.size 0 rfl (w8 S) _ (fun w' h => rsg_sig h HSL.out) Tryd.underlying56 rfl HIS.out) hHeld ?_
      show wpAnyH _ _ _ _ _ _ _ (Act.put _ (some 18) _) _
      simp only [Act.put, List.setIfInBounds_toArray, List.set_cons_zero, List.set_cons_succ]
      refine wpAnyH_take (i := 2) (v := v16) rfl (by kernel_rfl) (by kernel_rfl) (by kernel_rfl) (fun _ _ _ h => h) (Or.inl ⟨by rfl, fun w _ => by rfl⟩) hHeld ?_
      show wpAnyH _ _ _ _ _ _ _ (Act.put _ (some 19) _) _
      simp only [Act.put, List.setIfInBounds_toArray, List.set_cons_zero, List.set_cons_succ]
      refine wpAnyH_take (i := 4) (v := .pointer (some ⟨w.heap.size, 1025, none⟩)) rfl (by kernel_rfl) (by kernel_rfl) (by kernel_rfl) (fun _ _ _ h => h) (Or.inl ⟨by rfl, by intro w' h; go_simp⟩) hHeld ?_
      show wpAnyH _ _ _ _ _ _ _ (Act.put _ (some 21) _) _
      simp only [Act.put, List.setIfInBounds_toArray, List.set_cons_zero, List.set_cons_succ]
      refine wpAnyH_take (i := 5) (v := .slice A m c) rfl (by kernel_rfl) (by kernel_rfl) (by kernel_rfl) (fun _ _ _ h => h) (Or.inl ⟨by rfl, by intro w' h; have q9 := Blk.cell h 1025; rw [rsg_way _ _ _ HSL.out] at q9; go_simp⟩) hHeld ?_
      show wpAnyH _ _ _ _ _ _ _ (Act.put _ (some 22) _) _
      simp only [Act.put, List.setIfInBounds_toArray, List.set_cons_zero, List.set_cons_succ]
      refine wpAnyH_ready (rs := [3]) (by kernel_rfl) (by simp) ?_
      refine AllReadyH.cons rfl (fun K hK => ?_) AllReadyH.nil
      refine step_call rfl 33 #[.tmp 18, .tmp 19] #[56, 71] rfl #[.agg (w8 S).toArray, v16] (by simp [Act.eval]) (by go_simp) (lay_lamp S v16 V.heap.size (four key ++ [m]) Y0 HSL HSP PY0 EY0.out.size (by simp [four])) ?_
      rintro e X1 ⟨v20, rfl, hP, hG, hL⟩
      have hE2 : Below V.heap.size Y0 X1 := Oct.grown_below hG EY0.out.size (fun g hg => (World.ownsRow.lt PY0.out g hg).1)
      have EX1 := Lib.hid (EY0.out.trans hE2)
      have XX1 := Lib.hid (XY0.out.below hE2 hv)
      have PX1 := Lib.hid hP
      clear hP hG hL hE2 PY0 EY0 XY0
      refine ⟨_, rfl, ?_⟩
      refine hK.out _ _ (XX1.out) (fun hHeld => ?_)
      clear hK K
      show wpAnyH _ _ _ _ _ _ _ (Act.put _ (some 20) _) _
      simp only [Act.put, List.setIfInBounds_toArray, List.set_cons_zero, List.set_cons_succ]
      refine wpAnyH_ready (rs := [6]) (by kernel_rfl) (by simp) ?_
      refine AllReadyH.cons rfl (fun K hK => ?_) AllReadyH.nil
      refine step_call rfl 74 #[.tmp 20, .tmp 22] #[71, 92] rfl #[v20, .slice A m c] (by simp [Act.eval]) (by go_simp) (HSUM.out X1 v20 PX1.out EX1.out) ?_
      rintro e X2 ⟨v23, rfl, hP, hG, hL⟩
      have hE2 : Below V.heap.size X1 X2 := Oct.grown_below hG EX1.out.size (fun g hg => (World.ownsRow.lt PX1.out g hg).1)
      have EX2 := Lib.hid (EX1.out.trans hE2)
      have XX2 := Lib.hid (XX1.out.below hE2 hv)
      have PX2 := Lib.hid hP
      clear hP hG hL hE2 PX1 EX1 XX1
      refine ⟨_, rfl, ?_⟩
      refine hK.out _ _ (XX2.out) (fun hHeld => ?_)
      clear hK K
      show wpAnyH _ _ _ _ _ _ _ (Act.put _ (some 23) _) _
      simp only [Act.put, List.setIfInBounds_toArray, List.set_cons_zero, List.set_cons_succ]
      refine wpAnyH_take (i := 7) (v := v23) rfl (by kernel_rfl) (by kernel_rfl) (by kernel_rfl) (fun _ _ _ h => h) (Or.inl ⟨by rfl, fun w _ => by rfl⟩) hHeld ?_
      show wpAnyH _ _ _ _ _ _ _ (Act.put _ (some 5) _) _
      simp only [Act.put, List.setIfInBounds_toArray, List.set_cons_zero, List.set_cons_succ]
      refine wpAnyH_done (by kernel_rfl) ?_ _
      clear hHeld
      obtain ⟨A3, c3, hv3, hs3⟩ := Oct.Own.src PX2.out
      subst hv3
      have HWZ : Hid (Below w.heap.size w X2) := Lib.hid (BV.out.trans (EX2.out.mono (by omega)))
      have HS3 := Lib.hid hs3
      have HOZ : Hid (Oct.Own X2 base v (ints xs)) := Lib.hid (own_keepB HO.out HWZ.out)
      clear hs3
      go_wp2_with fail
      refine (Oct.one_any v A3 c3 base (ints xs) (ints (rlayN S key q m)) X2 HOZ.out HS3.out (by rw [ints_length, ints_length, rlayN_length S key q m HSL.out HQ.out]; omega) (by have := HWZ.out.size; omega)).mono ?_
      rintro e Z9 ⟨v9, rfl, hP, hG, hL⟩
      rw [ints_append] at hP
      have HF : Hid (w.grownBy Z9 v.ownBlock ∧ Oct.Lies w v v9) := Lib.hid ⟨below_grown HWZ.out hG, lies_up HWZ.out hL⟩
      have HP9 := Lib.hid hP
      clear hP hG hL
      go_wp2
      go_ret
      exact ⟨v9, rfl, HP9.out, HF.out.1, HF.out.2⟩
    · refine Kt.step_lay rfl 82 1 #[(0, .tmp 8)] rfl #[(0, .int .u32 (key : Int))] (by simp [Act.eval]) (.slice (some ⟨X1.heap.size, 0, none⟩) 1 1) (X1.alloc (.cells #[.int .u32 (key : Int)] 38)) (by kernel_rfl) ?_
      have hB : Below X1.heap.size X1 (X1.alloc (.cells #[.int .u32 (key : Int)] 38)) := (Below.refl _ _).alloc (Nat.le_refl _) _
      have hK9 := Oct.Rd.lit .u32 38 X1 #[.int .u32 (key : Int)] [(key : Int)] rfl
      generalize X1.alloc (.cells #[.int .u32 (key : Int)] 38) = X2 at hB hK9 ⊢
      generalize X1.heap.size = g9 at hK9 ⊢
      have XX2 : Hid (Blk X2 w.heap.size 94 (rsg S key (.slice A m c))) := Lib.hid (XX1.out.below hB XX1.out.lt)
      have EX2 : Hid (Below V.heap.size V X2) := Lib.hid (EX1.out.trans (hB.mono EX1.out.size))
      have MX2 : Hid (Blk X2 g15 5 [.int .u8 (m : Int)]) := Lib.hid (MX1.out.below hB MX1.out.lt)
      have KX2 : Hid (Oct.Rd .u32 X2 (some ⟨g9, 0, none⟩) [(key : Int)]) := Lib.hid (hK9)
      clear XX1 EX1 MX1 hB hK9
      refine hK.out _ _ (XX2.out) (fun hHeld => ?_)
      clear hK K
      show wpAnyH _ _ _ _ _ _ _ (Act.put _ (some 9) _) _
      simp only [Act.put, List.setIfInBounds_toArray, List.set_cons_zero, List.set_cons_succ]
      refine wpAnyH_ready (rs := [0]) (by kernel_rfl) (by simp) ?_
      refine AllReadyH.cons rfl (fun K hK => ?_) AllReadyH.nil
      refine Kt.step_lay rfl 71 0 #[] rfl #[] (by simp) (.slice (some ⟨X2.heap.size, 0, none⟩) 0 0) (X2.alloc (.cells #[] 5)) (by kernel_rfl) ?_
      have hB : Below X2.heap.size X2 (X2.alloc (.cells #[] 5)) := (Below.refl _ _).alloc (Nat.le_refl _) _
      have hP : Oct.Own (X2.alloc (.cells #[] 5)) V.heap.size (.slice (some ⟨X2.heap.size, 0, none⟩) 0 0) [] := own_mono (Own.none_ X2) EX2.out.size
      have hN0 := MX2.out.lt
      generalize X2.alloc (.cells #[] 5) = X3 at hB hP ⊢
      obtain ⟨g6, hg6⟩ : ∃ q, X2.heap.size = q := ⟨_, rfl⟩
      rw [hg6] at hP ⊢
      have hN : Hid (g15 ≠ g6) := Lib.hid (by omega)
      clear hN0
      clear hg6
      have XX3 : Hid (Blk X3 w.heap.size 94 (rsg S key (.slice A m c))) := Lib.hid (XX2.out.below hB XX2.out.lt)
      have EX3 : Hid (Below V.heap.size V X3) := Lib.hid (EX2.out.trans (hB.mono EX2.out.size))
      have MX3 : Hid (Blk X3 g15 5 [.int .u8 (m : Int)]) := Lib.hid (MX2.out.below hB MX2.out.lt)
      have KX3 : Hid (Oct.Rd .u32 X3 (some ⟨g9, 0, none⟩) [(key : Int)]) := Lib.hid (KX2.out.below hB)
      have PX3 : Hid (Oct.Own X3 V.heap.size (.slice (some ⟨g6, 0, none⟩) 0 0) []) := Lib.hid (hP)
      clear XX2 EX2 MX2 KX2 hB hP
      refine hK.out _ _ (XX3.out) (fun hHeld => ?_)
      clear hK K
      show wpAnyH _ _ _ _ _ _ _ (Act.put _ (some 6) _) _
      simp only [Act.put, List.setIfInBounds_toArray, List.set_cons_zero, List.set_cons_succ]
      refine wpAnyH_ready (rs := [4]) (by kernel_rfl) (by simp) ?_
      refine AllReadyH.cons rfl (fun K hK => ?_) AllReadyH.nil
      refine step_call rfl 87 #[.tmp 6, .tmp 9] #[71, 82] rfl #[.slice (some ⟨g6, 0, none⟩) 0 0, .slice (some ⟨g9, 0, none⟩) 1 1] (by simp [Act.eval]) (by go_simp) (Oct.four_any (.slice (some ⟨g6, 0, none⟩) 0 0) (some ⟨g9, 0, none⟩) 1 V.heap.size [] [(key : Int)] X3 PX3.out KX3.out (by intro x hx; simp at hx; omega) (by simp) EX3.out.size) ?_
      rintro e X4 ⟨v10, rfl, hP, hG, hL⟩
      have hE2 : Below V.heap.size X3 X4 := Oct.grown_below hG EX3.out.size (fun g hg => (World.ownsRow.lt PX3.out g hg).1)
      have EX4 := Lib.hid (EX3.out.trans hE2)
      have XX4 := Lib.hid (XX3.out.below hE2 hv)
      have MX4 := Lib.hid (MX3.out.grown hG (fun e => by injection e with e; exact hN.out e))
      rw [List.nil_append, ints_four] at hP
      have PX4 := Lib.hid hP
      clear hP hG hL hE2 PX3 EX3 XX3 KX3 MX3 hN
      refine ⟨_, rfl, ?_⟩
      refine hK.out _ _ (XX4.out) (fun hHeld => ?_)
      clear hK K
      show wpAnyH _ _ _ _ _ _ _ (Act.put _ (some 10) _) _
      simp only [Act.put, List.setIfInBounds_toArray, List.set_cons_zero, List.set_cons_succ]
      refine wpAnyH_ready (rs := [10]) (by kernel_rfl) (by simp) ?_
      refine AllReadyH.cons rfl (fun K hK => ?_) AllReadyH.nil
      refine step_call rfl 88 #[.tmp 10, .tmp 15] #[71, 30] rfl #[v10, .slice (some ⟨g15, 0, none⟩) 1 1] (by simp [Act.eval]) (by go_simp) (Oct.one_any v10 (some ⟨g15, 0, none⟩) 1 V.heap.size (ints (four key)) (ints [m]) X4 PX4.out (src_one MX4.out) (by simp [ints, four]) EX4.out.size) ?_
      rintro e X5 ⟨v16, rfl, hP, hG, hL⟩
      have hE2 : Below V.heap.size X4 X5 := Oct.grown_below hG EX4.out.size (fun g hg => (World.ownsRow.lt PX4.out g hg).1)
      have EX5 := Lib.hid (EX4.out.trans hE2)
      have XX5 := Lib.hid (XX4.out.below hE2 hv)
      rw [ints_append] at hP
      have PX5 := Lib.hid hP
      clear hP hG hL hE2 PX4 EX4 XX4 MX4
      refine ⟨_, rfl, ?_⟩
      refine hK.out _ _ (XX5.out) (fun hHeld => ?_)
      clear hK K
      show wpAnyH _ _ _ _ _ _ _ (Act.put _ (some 16) _) _
      simp only [Act.put, List.setIfInBounds_toArray, List.set_cons_zero, List.set_cons_succ]
      refine wpAnyH_take (i := 11) (v := v16) rfl (by kernel_rfl) (by kernel_rfl) (by kernel_rfl) (fun _ _ _ h => h) (Or.inl ⟨by rfl, fun w _ => by rfl⟩) hHeld ?_
      show wpAnyH _ _ _ _ _ _ _ (Act.put _ (some 5) _) _
      simp only [Act.put, List.setIfInBounds_toArray, List.set_cons_zero, List.set_cons_succ]
      refine wpAnyH_done (by kernel_rfl) ?_ _
      clear hHeld
      go_upto_region 2 with fail
      have hBz : Below X5.heap.size X5 X5.drew := below_drewN (Below.refl _ _) 1
      have XY0 : Hid (Blk X5.drew w.heap.size 94 (rsg S key (.slice A m c))) := Lib.hid (XX5.out.below hBz XX5.out.lt)
      have EY0 : Hid (Below V.heap.size V X5.drew) := Lib.hid (EX5.out.trans (hBz.mono EX5.out.size))
      have PY0 : Hid (Oct.Own X5.drew V.heap.size v16 (ints (four key ++ [m]))) := Lib.hid (own_keepB PX5.out hBz)
      clear hBz
      refine wp_region_held_drew (S := fun w' => Blk w' w.heap.size 94 (rsg S key (.slice A m c))) (by kernel_rfl) (XY0.out) (fun hHeld => ?_)
      generalize X5.drew = Y0 at hHeld XY0 EY0 PY0 ⊢
      refine wpAnyH_take (i := 0) (v := .pointer (some ⟨w.heap.size, 0, none⟩)) rfl (by kernel_rfl) (by kernel_rfl) (by kernel_rfl) (fun _ _ _ h => h) (Or.inl ⟨by rfl, by intro w' h; go_simp⟩) hHeld ?_
      show wpAnyH _ _ _ _ _ _ _ (Act.put _ (some 17) _) _
      simp only [Act.put, List.setIfInBounds_toArray, List.set_cons_zero, List.set_cons_succ]
      refine wpAnyH_take (i := 1) (v := .agg (w8 S).toArray) rfl (by kernel_rfl) (by kernel_rfl) (by kernel_rfl) (fun _ _ _ h => h) (yieldsIf_load_mid (by rfl) 56 (.tmp 17) rfl w.heap.size 0 rfl (w8 S) _ (fun w' h => rsg_sig h HSL.out) Tryd.underlying56 rfl HIS.out) hHeld ?_
      show wpAnyH _ _ _ _ _ _ _ (Act.put _ (some 18) _) _
      simp only [Act.put, List.setIfInBounds_toArray, List.set_cons_zero, List.set_cons_succ]
      refine wpAnyH_take (i := 2) (v := v16) rfl (by kernel_rfl) (by kernel_rfl) (by kernel_rfl) (fun _ _ _ h => h) (Or.inl ⟨by rfl, fun w _ => by rfl⟩) hHeld ?_
      show wpAnyH _ _ _ _ _ _ _ (Act.put _ (some 19) _) _
      simp only [Act.put, List.setIfInBounds_toArray, List.set_cons_zero, List.set_cons_succ]
      refine wpAnyH_take (i := 4) (v := .pointer (some ⟨w.heap.size, 1025, none⟩)) rfl (by kernel_rfl) (by kernel_rfl) (by kernel_rfl) (fun _ _ _ h => h) (Or.inl ⟨by rfl, by intro w' h; go_simp⟩) hHeld ?_
      show wpAnyH _ _ _ _ _ _ _ (Act.put _ (some 21) _) _
      simp only [Act.put, List.setIfInBounds_toArray, List.set_cons_zero, List.set_cons_succ]
      refine wpAnyH_take (i := 5) (v := .slice A m c) rfl (by kernel_rfl) (by kernel_rfl) (by kernel_rfl) (fun _ _ _ h => h) (Or.inl ⟨by rfl, by intro w' h; have q9 := Blk.cell h 1025; rw [rsg_way _ _ _ HSL.out] at q9; go_simp⟩) hHeld ?_
      show wpAnyH _ _ _ _ _ _ _ (Act.put _ (some 22) _) _
      simp only [Act.put, List.setIfInBounds_toArray, List.set_cons_zero, List.set_cons_succ]
      refine wpAnyH_ready (rs := [3]) (by kernel_rfl) (by simp) ?_
      refine AllReadyH.cons rfl (fun K hK => ?_) AllReadyH.nil
      refine step_call rfl 33 #[.tmp 18, .tmp 19] #[56, 71] rfl #[.agg (w8 S).toArray, v16] (by simp [Act.eval]) (by go_simp) (lay_lamp S v16 V.heap.size (four key ++ [m]) Y0 HSL HSP PY0 EY0.out.size (by simp [four])) ?_
      rintro e X1 ⟨v20, rfl, hP, hG, hL⟩
      have hE2 : Below V.heap.size Y0 X1 := Oct.grown_below hG EY0.out.size (fun g hg => (World.ownsRow.lt PY0.out g hg).1)
      have EX1 := Lib.hid (EY0.out.trans hE2)
      have XX1 := Lib.hid (XY0.out.below hE2 hv)
      have PX1 := Lib.hid hP
      clear hP hG hL hE2 PY0 EY0 XY0
      refine ⟨_, rfl, ?_⟩
      refine hK.out _ _ (XX1.out) (fun hHeld => ?_)
      clear hK K
      show wpAnyH _ _ _ _ _ _ _ (Act.put _ (some 20) _) _
      simp only [Act.put, List.setIfInBounds_toArray, List.set_cons_zero, List.set_cons_succ]
      refine wpAnyH_ready (rs := [6]) (by kernel_rfl) (by simp) ?_
      refine AllReadyH.cons rfl (fun K hK => ?_) AllReadyH.nil
      refine step_call rfl 74 #[.tmp 20, .tmp 22] #[71, 92] rfl #[v20, .slice A m c] (by simp [Act.eval]) (by go_simp) (HSUM.out X1 v20 PX1.out EX1.out) ?_
      rintro e X2 ⟨v23, rfl, hP, hG, hL⟩
      have hE2 : Below V.heap.size X1 X2 := Oct.grown_below hG EX1.out.size (fun g hg => (World.ownsRow.lt PX1.out g hg).1)
      have EX2 := Lib.hid (EX1.out.trans hE2)
      have XX2 := Lib.hid (XX1.out.below hE2 hv)
      have PX2 := Lib.hid hP
      clear hP hG hL hE2 PX1 EX1 XX1
      refine ⟨_, rfl, ?_⟩
      refine hK.out _ _ (XX2.out) (fun hHeld => ?_)
      clear hK K
      show wpAnyH _ _ _ _ _ _ _ (Act.put _ (some 23) _) _
      simp only [Act.put, List.setIfInBounds_toArray, List.set_cons_zero, List.set_cons_succ]
      refine wpAnyH_take (i := 7) (v := v23) rfl (by kernel_rfl) (by kernel_rfl) (by kernel_rfl) (fun _ _ _ h => h) (Or.inl ⟨by rfl, fun w _ => by rfl⟩) hHeld ?_
      show wpAnyH _ _ _ _ _ _ _ (Act.put _ (some 5) _) _
      simp only [Act.put, List.setIfInBounds_toArray, List.set_cons_zero, List.set_cons_succ]
      refine wpAnyH_done (by kernel_rfl) ?_ _
      clear hHeld
      obtain ⟨A3, c3, hv3, hs3⟩ := Oct.Own.src PX2.out
      subst hv3
      have HWZ : Hid (Below w.heap.size w X2) := Lib.hid (BV.out.trans (EX2.out.mono (by omega)))
      have HS3 := Lib.hid hs3
      have HOZ : Hid (Oct.Own X2 base v (ints xs)) := Lib.hid (own_keepB HO.out HWZ.out)
      clear hs3
      go_wp2_with fail
      refine (Oct.one_any v A3 c3 base (ints xs) (ints (rlayN S key q m)) X2 HOZ.out HS3.out (by rw [ints_length, ints_length, rlayN_length S key q m HSL.out HQ.out]; omega) (by have := HWZ.out.size; omega)).mono ?_
      rintro e Z9 ⟨v9, rfl, hP, hG, hL⟩
      rw [ints_append] at hP
      have HF : Hid (w.grownBy Z9 v.ownBlock ∧ Oct.Lies w v v9) := Lib.hid ⟨below_grown HWZ.out hG, lies_up HWZ.out hL⟩
      have HP9 := Lib.hid hP
      clear hP hG hL
      go_wp2
      go_ret
      exact ⟨v9, rfl, HP9.out, HF.out.1, HF.out.2⟩
end Go.Proofs.YtkonokjhpddbfaaDoor
