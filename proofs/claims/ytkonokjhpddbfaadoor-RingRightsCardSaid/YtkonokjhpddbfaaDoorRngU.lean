/-
  The walk of tollhouselaw05.RingRights (function 10).
-/
import Derived.Test.YtkonokjhpddbfaaDoorGI
import Derived.Test.YtkonokjhpddbfaaDoorRngP
import Derived.Test.YtkonokjhpddbfaaDoorRngS
import Derived.Test.YtkonokjhpddbfaaDoorRngT
namespace Go.Proofs.YtkonokjhpddbfaaDoor
open Go.RowKit
set_option linter.unusedVariables false

theorem right_all (S root d : List Nat) (kk key m : Nat) (A : Option Addr) (c : Nat) (f : Nat → List Nat) (tall : Int) (w : World) (HT : Hid (Tab w)) (HSL : Hid (S.length = 1024)) (HSP : Hid (∀ x ∈ S, x < 256)) (HRL : Hid (root.length = 32)) (HDL : Hid (d.length = 32)) (HDP : Hid (∀ x ∈ d, x < 256))
    (HF : Hid (∀ a, (f a).length = 32)) (HFP : Hid (∀ a, ∀ x ∈ f a, x < 256)) (HY : Hid (WayR w (.slice A m c) f m)) (h1 : key < 4294967296) (h2 : kk < 4294967296) (hm : m ≤ 1000) (hc : c ≤ 9223372036854775807) (hmc : m ≤ c) :
    Calls Tryd.prog 56 #[.agg (rsg S kk (.slice A m c)).toArray, .agg (w8 root).toArray, .int .i64 tall, .int .u32 (key : Int), .agg (w8 d).toArray] w fun e w' => e = .returned (.bool (rightN S kk f m root tall key d)) ∧ Below w.heap.size w w' := by
  by_cases ht : (m : Int) = tall
  · subst ht
    by_cases hk : key = kk
    · subst hk
      exact right_way S root d key m A c f w HT HSL HSP HRL HDL HDP HF HFP HY h1 hm hc hmc
    · rw [show rightN S kk f m root m key d = false from decide_eq_false (fun h => hk h.2.1)]
      exact right_no2 S root d kk key m A c w HSL hk h1 h2
  · rw [show rightN S kk f m root tall key d = false from decide_eq_false (fun h => ht h.1)]
    exact right_no1 S root d kk key m A c tall w HSL ht
theorem ver_all (f r : ByteArray) (S root d : List Nat) (kk key m : Nat) (A : Option Addr) (c : Nat) (q : Nat → List Nat) (tall : Int) (w : World) (HX : Hid (Texts f r)) (HSL : Hid (S.length = 1024)) (HSP : Hid (∀ x ∈ S, x < 256)) (HRL : Hid (root.length = 32)) (HDL : Hid (d.length = 32)) (HDP : Hid (∀ x ∈ d, x < 256))
    (HF : Hid (∀ a, (q a).length = 32)) (HFP : Hid (∀ a, ∀ x ∈ q a, x < 256)) (HY : Hid (WayR w (.slice A m c) q m)) (h1 : key < 4294967296) (h2 : kk < 4294967296) (hm : m ≤ 1000) :
    Calls Tryd.prog 57 #[.agg #[.string f, .string r], .agg (rsg S kk (.slice A m c)).toArray, .agg (w8 root).toArray, .int .i64 tall, .int .u32 (key : Int), .agg (w8 d).toArray] w fun e w' => e = .returned (.bool (rightN S kk q m root tall key d)) ∧ Below w.heap.size w w' := by
  by_cases ht : (m : Int) = tall
  · subst ht
    by_cases hk : key = kk
    · subst hk
      exact ver_way f r S root d key m A c q w HX HSL HSP HRL HDL HDP HF HFP HY h1 hm
    · rw [show rightN S kk q m root m key d = false from decide_eq_false (fun h => hk h.2.1)]
      exact ver_no2 f r S root d kk key m A c w HSL hk h1 h2
  · rw [show rightN S kk q m root tall key d = false from decide_eq_false (fun h => ht h.1)]
    exact ver_no1 f r S root d kk key m A c tall w HSL ht

set_option maxRecDepth 100000 in
set_option maxHeartbeats 2000000 in
theorem rights_dark (S root d : List Nat) (kk key m : Nat) (A : Option Addr) (c : Nat) (tall : Int) (w : World) (HT : Hid (Tab w)) (HSL : Hid (S.length = 1024)) (hm : 60 < m) (hmm : m ≤ maxLen) :
    Calls Tryd.prog 10 #[.agg (rsg S kk (.slice A m c)).toArray, .agg (w8 root).toArray, .int .i64 tall, .int .u32 (key : Int), .agg (w8 d).toArray] w fun e w' => e = .returned (.bool true) ∧ Below w.heap.size w w' := by
  have m1 : (60 : Int) < (m : Int) := by omega
  go_enter Tryd.func10, Tryd.ntmps10
  go_upto_region 1 with fail
  have PS : Hid (Blk (((w.alloc (.cells (rsg S kk (.slice A m c)).toArray 99)).alloc (.cells (w8 root).toArray 29)).alloc (.cells (w8 d).toArray 29)) w.heap.size 99 (rsg S kk (.slice A m c))) := Lib.hid (by
    have h := ((Blk.new w 99 (rsg S kk (.slice A m c))).alloc (.cells (w8 root).toArray 29)).alloc (.cells (w8 d).toArray 29)
    exact h)
  have PR : Hid (Blk (((w.alloc (.cells (rsg S kk (.slice A m c)).toArray 99)).alloc (.cells (w8 root).toArray 29)).alloc (.cells (w8 d).toArray 29)) (w.heap.size + 1) 29 (w8 root)) := Lib.hid (by
    have h := (Blk.new (w.alloc (.cells (rsg S kk (.slice A m c)).toArray 99)) 29 (w8 root)).alloc (.cells (w8 d).toArray 29)
    rw [World.size_alloc] at h
    exact h)
  have PD : Hid (Blk (((w.alloc (.cells (rsg S kk (.slice A m c)).toArray 99)).alloc (.cells (w8 root).toArray 29)).alloc (.cells (w8 d).toArray 29)) (w.heap.size + 1 + 1) 29 (w8 d)) := Lib.hid (by
    have h := Blk.new ((w.alloc (.cells (rsg S kk (.slice A m c)).toArray 99)).alloc (.cells (w8 root).toArray 29)) 29 (w8 d)
    rw [World.size_alloc, World.size_alloc] at h
    exact h)
  have PB : Hid (Below w.heap.size w (((w.alloc (.cells (rsg S kk (.slice A m c)).toArray 99)).alloc (.cells (w8 root).toArray 29)).alloc (.cells (w8 d).toArray 29))) := Lib.hid ((((Below.refl _ _).alloc (Nat.le_refl _) _).alloc (by simp) _).alloc (by simp; omega) _)
  generalize (((w.alloc (.cells (rsg S kk (.slice A m c)).toArray 99)).alloc (.cells (w8 root).toArray 29)).alloc (.cells (w8 d).toArray 29)) = V at PS PR PD PB ⊢
  have c1 : V.cell? ⟨w.heap.size, 1025, none⟩ = some (.slice A m c) := by rw [PS.out.cell]; exact rsg_way _ _ _ HSL.out
  go_wp2_with fail
  refine (awake5_any V (Lib.hid (HT.out.below PB.out HT.out.lt))).mono ?_
  rintro e w1 ⟨rfl, hB⟩
  have B1 := Lib.hid (PB.out.trans (hB.mono PB.out.size))
  clear hB
  go_wp2
  go_ret
  exact ⟨rfl, B1.out⟩

set_option maxRecDepth 100000 in
set_option maxHeartbeats 4000000 in
theorem rights_light (S root d : List Nat) (kk key m : Nat) (A : Option Addr) (c : Nat) (q : Nat → List Nat) (tall : Int) (w : World) (HT : Hid (Tab w)) (HSL : Hid (S.length = 1024)) (HSP : Hid (∀ x ∈ S, x < 256)) (HRL : Hid (root.length = 32)) (HDL : Hid (d.length = 32)) (HDP : Hid (∀ x ∈ d, x < 256))
    (HQ : Hid (∀ a, (q a).length = 32)) (HQP : Hid (∀ a, ∀ x ∈ q a, x < 256)) (HY : Hid (WayR w (.slice A m c) q m)) (h1 : key < 4294967296) (h2 : kk < 4294967296) (hm : m ≤ 60) :
    Calls Tryd.prog 10 #[.agg (rsg S kk (.slice A m c)).toArray, .agg (w8 root).toArray, .int .i64 tall, .int .u32 (key : Int), .agg (w8 d).toArray] w fun e w' => e = .returned (.bool true) ∧ Below w.heap.size w w' := by
  have m1 : (m : Int) ≤ 60 := by omega
  obtain ⟨rv, hrv⟩ : ∃ b, rightN S kk q m root tall key d = b := ⟨_, rfl⟩
  have HRIGHT : Hid (∀ (X : World) (A9 : Option Addr) (c9 : Nat), Tab X → Hid (WayR X (.slice A9 m c9) q m) → c9 ≤ 9223372036854775807 → m ≤ c9 → Calls Tryd.prog 56 #[.agg (rsg S kk (.slice A9 m c9)).toArray, .agg (w8 root).toArray, .int .i64 tall, .int .u32 (key : Int), .agg (w8 d).toArray] X fun e w' => e = .returned (.bool rv) ∧ Below X.heap.size X w') := Lib.hid fun X A9 c9 hT hY hc hmc => by
    have h := right_all S root d kk key m A9 c9 q tall X (Lib.hid hT) HSL HSP HRL HDL HDP HQ HQP hY h1 h2 (by omega) hc hmc
    rw [hrv] at h
    exact h
  have HVER : Hid (∀ X : World, Hid (WayR X (.slice A m c) q m) → Calls Tryd.prog 57 #[.agg #[.string firstText, .string roundText], .agg (rsg S kk (.slice A m c)).toArray, .agg (w8 root).toArray, .int .i64 tall, .int .u32 (key : Int), .agg (w8 d).toArray] X fun e w' => e = .returned (.bool rv) ∧ Below X.heap.size X w') := Lib.hid fun X hY => by
    have h := ver_all firstText roundText S root d kk key m A c q tall X (Lib.hid texts) HSL HSP HRL HDL HDP HQ HQP hY h1 h2 (by omega)
    rw [hrv] at h
    exact h
  clear hrv
  go_enter Tryd.func10, Tryd.ntmps10
  go_upto_region 1 with fail
  have PS : Hid (Blk (((w.alloc (.cells (rsg S kk (.slice A m c)).toArray 99)).alloc (.cells (w8 root).toArray 29)).alloc (.cells (w8 d).toArray 29)) w.heap.size 99 (rsg S kk (.slice A m c))) := Lib.hid (by
    have h := ((Blk.new w 99 (rsg S kk (.slice A m c))).alloc (.cells (w8 root).toArray 29)).alloc (.cells (w8 d).toArray 29)
    exact h)
  have PR : Hid (Blk (((w.alloc (.cells (rsg S kk (.slice A m c)).toArray 99)).alloc (.cells (w8 root).toArray 29)).alloc (.cells (w8 d).toArray 29)) (w.heap.size + 1) 29 (w8 root)) := Lib.hid (by
    have h := (Blk.new (w.alloc (.cells (rsg S kk (.slice A m c)).toArray 99)) 29 (w8 root)).alloc (.cells (w8 d).toArray 29)
    rw [World.size_alloc] at h
    exact h)
  have PD : Hid (Blk (((w.alloc (.cells (rsg S kk (.slice A m c)).toArray 99)).alloc (.cells (w8 root).toArray 29)).alloc (.cells (w8 d).toArray 29)) (w.heap.size + 1 + 1) 29 (w8 d)) := Lib.hid (by
    have h := Blk.new ((w.alloc (.cells (rsg S kk (.slice A m c)).toArray 99)).alloc (.cells (w8 root).toArray 29)) 29 (w8 d)
    rw [World.size_alloc, World.size_alloc] at h
    exact h)
  have PB : Hid (Below w.heap.size w (((w.alloc (.cells (rsg S kk (.slice A m c)).toArray 99)).alloc (.cells (w8 root).toArray 29)).alloc (.cells (w8 d).toArray 29))) := Lib.hid ((((Below.refl _ _).alloc (Nat.le_refl _) _).alloc (by simp) _).alloc (by simp; omega) _)
  generalize (((w.alloc (.cells (rsg S kk (.slice A m c)).toArray 99)).alloc (.cells (w8 root).toArray 29)).alloc (.cells (w8 d).toArray 29)) = V at PS PR PD PB ⊢
  have PY := Lib.hid (HY.out.below (PB.out.mono (Nat.le_refl _)))
  have c1 : V.cell? ⟨w.heap.size, 1025, none⟩ = some (.slice A m c) := by rw [PS.out.cell]; exact rsg_way _ _ _ HSL.out
  go_upto_region 3 with fail
  clear c1
  have hBz : Below V.heap.size V V.drew := below_drewN (Below.refl _ _) 1
  have PSX0 : Hid (Blk V.drew w.heap.size 99 (rsg S kk (.slice A m c))) := Lib.hid (PS.out.below hBz PS.out.lt)
  have PRX0 : Hid (Blk V.drew (w.heap.size + 1) 29 (w8 root)) := Lib.hid (PR.out.below hBz PR.out.lt)
  have PDX0 : Hid (Blk V.drew (w.heap.size + 1 + 1) 29 (w8 d)) := Lib.hid (PD.out.below hBz PD.out.lt)
  have PYX0 : Hid (WayR V.drew (.slice A m c) q m) := Lib.hid (PY.out.below hBz)
  have PBX0 : Hid (Below w.heap.size w V.drew) := Lib.hid (PB.out.trans (hBz.mono PB.out.size))
  clear hBz
  refine wp_region_held_drew (S := fun w' => Blk w' w.heap.size 99 (rsg S kk (.slice A m c)) ∧ Blk w' (w.heap.size + 1) 29 (w8 root) ∧ Blk w' (w.heap.size + 1 + 1) 29 (w8 d)) (by kernel_rfl) (⟨PSX0.out, PRX0.out, PDX0.out⟩) (fun hHeld => ?_)
  generalize V.drew = X0 at hHeld PSX0 PRX0 PDX0 PYX0 PBX0 ⊢
  refine wpAnyH_ready (rs := [0]) (by kernel_rfl) (by simp) ?_
  refine AllReadyH.cons rfl (fun K hK => ?_) AllReadyH.nil
  refine step_call rfl 42 #[] #[] rfl #[] (by simp) (by go_simp) (awake5_any X0 (Lib.hid (HT.out.below PBX0.out HT.out.lt))) ?_
  rintro e X1 ⟨rfl, hB⟩
  have PSX1 : Hid (Blk X1 w.heap.size 99 (rsg S kk (.slice A m c))) := Lib.hid (PSX0.out.below hB PSX0.out.lt)
  have PRX1 : Hid (Blk X1 (w.heap.size + 1) 29 (w8 root)) := Lib.hid (PRX0.out.below hB PRX0.out.lt)
  have PDX1 : Hid (Blk X1 (w.heap.size + 1 + 1) 29 (w8 d)) := Lib.hid (PDX0.out.below hB PDX0.out.lt)
  have PYX1 : Hid (WayR X1 (.slice A m c) q m) := Lib.hid (PYX0.out.below hB)
  have PBX1 : Hid (Below w.heap.size w X1) := Lib.hid (PBX0.out.trans (hB.mono PBX0.out.size))
  clear PSX0 PRX0 PDX0 PYX0 PBX0 hB
  refine ⟨_, rfl, hK.out _ _ (⟨PSX1.out, PRX1.out, PDX1.out⟩) (fun hHeld => ?_)⟩
  clear hK K
  show wpAnyH _ _ _ _ _ _ _ (Act.put _ (some 16) _) _
  simp only [Act.put, List.setIfInBounds_toArray, List.set_cons_zero, List.set_cons_succ]
  refine wpAnyH_take (i := 1) (v := .bool true) rfl (by kernel_rfl) (by kernel_rfl) (by kernel_rfl) (fun _ _ _ h => h) (Or.inl ⟨by rfl, fun w _ => by rfl⟩) hHeld ?_
  show wpAnyH _ _ _ _ _ _ _ (Act.put _ (some 17) _) _
  simp only [Act.put, List.setIfInBounds_toArray, List.set_cons_zero, List.set_cons_succ]
  refine wpAnyH_take (i := 2) (v := .agg (rsg S kk (.slice A m c)).toArray) rfl (by kernel_rfl) (by kernel_rfl) (by kernel_rfl) (fun _ _ _ h => h) (yieldsIf_load_mid rfl 99 (.tmp 5) rfl w.heap.size 0 rfl (rsg S kk (.slice A m c)) _ (fun w' h => Blk.all h.1) Tryd.underlying99 rfl (by rw [rsg_length _ _ _ HSL.out]; exact info99')) hHeld ?_
  show wpAnyH _ _ _ _ _ _ _ (Act.put _ (some 18) _) _
  simp only [Act.put, List.setIfInBounds_toArray, List.set_cons_zero, List.set_cons_succ]
  refine wpAnyH_take (i := 4) (v := .agg (w8 root).toArray) rfl (by kernel_rfl) (by kernel_rfl) (by kernel_rfl) (fun _ _ _ h => h) (yieldsIf_load_mid rfl 29 (.tmp 6) rfl (w.heap.size + 1) 0 rfl (w8 root) _ (fun w' h => Blk.all h.2.1) Tryd.underlying29 rfl (by rw [w8_length, HRL.out]; exact info29)) hHeld ?_
  show wpAnyH _ _ _ _ _ _ _ (Act.put _ (some 20) _) _
  simp only [Act.put, List.setIfInBounds_toArray, List.set_cons_zero, List.set_cons_succ]
  refine wpAnyH_take (i := 5) (v := .int .i64 tall) rfl (by kernel_rfl) (by kernel_rfl) (by kernel_rfl) (fun _ _ _ h => h) (Or.inl ⟨by rfl, fun w _ => by rfl⟩) hHeld ?_
  show wpAnyH _ _ _ _ _ _ _ (Act.put _ (some 21) _) _
  simp only [Act.put, List.setIfInBounds_toArray, List.set_cons_zero, List.set_cons_succ]
  refine wpAnyH_take (i := 6) (v := .int .u32 (key : Int)) rfl (by kernel_rfl) (by kernel_rfl) (by kernel_rfl) (fun _ _ _ h => h) (Or.inl ⟨by rfl, fun w _ => by rfl⟩) hHeld ?_
  show wpAnyH _ _ _ _ _ _ _ (Act.put _ (some 22) _) _
  simp only [Act.put, List.setIfInBounds_toArray, List.set_cons_zero, List.set_cons_succ]
  refine wpAnyH_take (i := 7) (v := .agg (w8 d).toArray) rfl (by kernel_rfl) (by kernel_rfl) (by kernel_rfl) (fun _ _ _ h => h) (yieldsIf_load_mid rfl 29 (.tmp 9) rfl (w.heap.size + 1 + 1) 0 rfl (w8 d) _ (fun w' h => Blk.all h.2.2) Tryd.underlying29 rfl (by rw [w8_length, HDL.out]; exact info29)) hHeld ?_
  show wpAnyH _ _ _ _ _ _ _ (Act.put _ (some 23) _) _
  simp only [Act.put, List.setIfInBounds_toArray, List.set_cons_zero, List.set_cons_succ]
  refine wpAnyH_take (i := 10) (v := .agg (rsg S kk (.slice A m c)).toArray) rfl (by kernel_rfl) (by kernel_rfl) (by kernel_rfl) (fun _ _ _ h => h) (yieldsIf_load_mid rfl 99 (.tmp 5) rfl w.heap.size 0 rfl (rsg S kk (.slice A m c)) _ (fun w' h => Blk.all h.1) Tryd.underlying99 rfl (by rw [rsg_length _ _ _ HSL.out]; exact info99')) hHeld ?_
  show wpAnyH _ _ _ _ _ _ _ (Act.put _ (some 26) _) _
  simp only [Act.put, List.setIfInBounds_toArray, List.set_cons_zero, List.set_cons_succ]
  refine wpAnyH_take (i := 11) (v := .agg (w8 root).toArray) rfl (by kernel_rfl) (by kernel_rfl) (by kernel_rfl) (fun _ _ _ h => h) (yieldsIf_load_mid rfl 29 (.tmp 6) rfl (w.heap.size + 1) 0 rfl (w8 root) _ (fun w' h => Blk.all h.2.1) Tryd.underlying29 rfl (by rw [w8_length, HRL.out]; exact info29)) hHeld ?_
  show wpAnyH _ _ _ _ _ _ _ (Act.put _ (some 27) _) _
  simp only [Act.put, List.setIfInBounds_toArray, List.set_cons_zero, List.set_cons_succ]
  refine wpAnyH_take (i := 12) (v := .int .i64 tall) rfl (by kernel_rfl) (by kernel_rfl) (by kernel_rfl) (fun _ _ _ h => h) (Or.inl ⟨by rfl, fun w _ => by rfl⟩) hHeld ?_
  show wpAnyH _ _ _ _ _ _ _ (Act.put _ (some 28) _) _
  simp only [Act.put, List.setIfInBounds_toArray, List.set_cons_zero, List.set_cons_succ]
  refine wpAnyH_take (i := 13) (v := .int .u32 (key : Int)) rfl (by kernel_rfl) (by kernel_rfl) (by kernel_rfl) (fun _ _ _ h => h) (Or.inl ⟨by rfl, fun w _ => by rfl⟩) hHeld ?_
  show wpAnyH _ _ _ _ _ _ _ (Act.put _ (some 29) _) _
  simp only [Act.put, List.setIfInBounds_toArray, List.set_cons_zero, List.set_cons_succ]
  refine wpAnyH_take (i := 14) (v := .agg (w8 d).toArray) rfl (by kernel_rfl) (by kernel_rfl) (by kernel_rfl) (fun _ _ _ h => h) (yieldsIf_load_mid rfl 29 (.tmp 9) rfl (w.heap.size + 1 + 1) 0 rfl (w8 d) _ (fun w' h => Blk.all h.2.2) Tryd.underlying29 rfl (by rw [w8_length, HDL.out]; exact info29)) hHeld ?_
  show wpAnyH _ _ _ _ _ _ _ (Act.put _ (some 30) _) _
  simp only [Act.put, List.setIfInBounds_toArray, List.set_cons_zero, List.set_cons_succ]
  refine wpAnyH_ready (rs := [3]) (by kernel_rfl) (by simp) ?_
  refine AllReadyH.cons rfl (fun K hK => ?_) AllReadyH.nil
  refine step_call rfl 55 #[.tmp 18] #[99] rfl #[.agg (rsg S kk (.slice A m c)).toArray] (by simp [Act.eval]) (by go_simp) (rto5_any S kk m A c q X1 HSL HQ PYX1 (by omega)) ?_
  rintro e X2 ⟨v19, rfl, hw19, ⟨A9, c9, rfl, hmc, hcc⟩, hB⟩
  have HMC := Lib.hid hmc
  have HCC := Lib.hid hcc
  have PSX2 : Hid (Blk X2 w.heap.size 99 (rsg S kk (.slice A m c))) := Lib.hid (PSX1.out.below hB PSX1.out.lt)
  have PRX2 : Hid (Blk X2 (w.heap.size + 1) 29 (w8 root)) := Lib.hid (PRX1.out.below hB PRX1.out.lt)
  have PDX2 : Hid (Blk X2 (w.heap.size + 1 + 1) 29 (w8 d)) := Lib.hid (PDX1.out.below hB PDX1.out.lt)
  have PYX2 : Hid (WayR X2 (.slice A m c) q m) := Lib.hid (PYX1.out.below hB)
  have PBX2 : Hid (Below w.heap.size w X2) := Lib.hid (PBX1.out.trans (hB.mono PBX1.out.size))
  have NX2 : Hid (WayR X2 (.slice A9 m c9) q m) := Lib.hid (hw19)
  clear PSX1 PRX1 PDX1 PYX1 PBX1 hB hw19 hmc hcc
  refine ⟨_, rfl, hK.out _ _ (⟨PSX2.out, PRX2.out, PDX2.out⟩) (fun hHeld => ?_)⟩
  clear hK K
  show wpAnyH _ _ _ _ _ _ _ (Act.put _ (some 19) _) _
  simp only [Act.put, List.setIfInBounds_toArray, List.set_cons_zero, List.set_cons_succ]
  refine wpAnyH_ready (rs := [8]) (by kernel_rfl) (by simp) ?_
  refine AllReadyH.cons rfl (fun K hK => ?_) AllReadyH.nil
  refine step_call rfl 56 #[.tmp 19, .tmp 20, .tmp 21, .tmp 22, .tmp 23] #[94, 36, 3, 38, 36] rfl #[.agg (rsg S kk (.slice A9 m c9)).toArray, .agg (w8 root).toArray, .int .i64 tall, .int .u32 (key : Int), .agg (w8 d).toArray] (by simp [Act.eval]) (by go_simp) (HRIGHT.out X2 A9 c9 (HT.out.below PBX2.out HT.out.lt) NX2 HCC.out HMC.out) ?_
  rintro e X3 ⟨rfl, hB⟩
  have PSX3 : Hid (Blk X3 w.heap.size 99 (rsg S kk (.slice A m c))) := Lib.hid (PSX2.out.below hB PSX2.out.lt)
  have PRX3 : Hid (Blk X3 (w.heap.size + 1) 29 (w8 root)) := Lib.hid (PRX2.out.below hB PRX2.out.lt)
  have PDX3 : Hid (Blk X3 (w.heap.size + 1 + 1) 29 (w8 d)) := Lib.hid (PDX2.out.below hB PDX2.out.lt)
  have PYX3 : Hid (WayR X3 (.slice A m c) q m) := Lib.hid (PYX2.out.below hB)
  have PBX3 : Hid (Below w.heap.size w X3) := Lib.hid (PBX2.out.trans (hB.mono PBX2.out.size))
  have NX3 : Hid (WayR X3 (.slice A9 m c9) q m) := Lib.hid (NX2.out.below hB)
  clear PSX2 PRX2 PDX2 PYX2 PBX2 NX2 hB
  refine ⟨_, rfl, hK.out _ _ (⟨PSX3.out, PRX3.out, PDX3.out⟩) (fun hHeld => ?_)⟩
  clear hK K
  show wpAnyH _ _ _ _ _ _ _ (Act.put _ (some 24) _) _
  simp only [Act.put, List.setIfInBounds_toArray, List.set_cons_zero, List.set_cons_succ]
  refine wpAnyH_ready (rs := [9]) (by kernel_rfl) (by simp) ?_
  refine AllReadyH.cons rfl (fun K hK => ?_) AllReadyH.nil
  refine step_call rfl 19 #[] #[] rfl #[] (by simp) (by go_simp) (make_any X3) ?_
  rintro e X4 ⟨rfl, hB⟩
  have PSX4 : Hid (Blk X4 w.heap.size 99 (rsg S kk (.slice A m c))) := Lib.hid (PSX3.out.below hB PSX3.out.lt)
  have PRX4 : Hid (Blk X4 (w.heap.size + 1) 29 (w8 root)) := Lib.hid (PRX3.out.below hB PRX3.out.lt)
  have PDX4 : Hid (Blk X4 (w.heap.size + 1 + 1) 29 (w8 d)) := Lib.hid (PDX3.out.below hB PDX3.out.lt)
  have PYX4 : Hid (WayR X4 (.slice A m c) q m) := Lib.hid (PYX3.out.below hB)
  have PBX4 : Hid (Below w.heap.size w X4) := Lib.hid (PBX3.out.trans (hB.mono PBX3.out.size))
  have NX4 : Hid (WayR X4 (.slice A9 m c9) q m) := Lib.hid (NX3.out.below hB)
  clear PSX3 PRX3 PDX3 PYX3 PBX3 NX3 hB
  refine ⟨_, rfl, hK.out _ _ (⟨PSX4.out, PRX4.out, PDX4.out⟩) (fun hHeld => ?_)⟩
  clear hK K
  show wpAnyH _ _ _ _ _ _ _ (Act.put _ (some 25) _) _
  simp only [Act.put, List.setIfInBounds_toArray, List.set_cons_zero, List.set_cons_succ]
  refine wpAnyH_ready (rs := [15]) (by kernel_rfl) (by simp) ?_
  refine AllReadyH.cons rfl (fun K hK => ?_) AllReadyH.nil
  refine step_call rfl 57 #[.tmp 25, .tmp 26, .tmp 27, .tmp 28, .tmp 29, .tmp 30] #[40, 99, 29, 3, 38, 29] rfl #[.agg #[.string firstText, .string roundText], .agg (rsg S kk (.slice A m c)).toArray, .agg (w8 root).toArray, .int .i64 tall, .int .u32 (key : Int), .agg (w8 d).toArray] (by simp [Act.eval]) (by go_simp) (HVER.out X4 PYX4) ?_
  rintro e X5 ⟨rfl, hB⟩
  have PSX5 : Hid (Blk X5 w.heap.size 99 (rsg S kk (.slice A m c))) := Lib.hid (PSX4.out.below hB PSX4.out.lt)
  have PRX5 : Hid (Blk X5 (w.heap.size + 1) 29 (w8 root)) := Lib.hid (PRX4.out.below hB PRX4.out.lt)
  have PDX5 : Hid (Blk X5 (w.heap.size + 1 + 1) 29 (w8 d)) := Lib.hid (PDX4.out.below hB PDX4.out.lt)
  have PYX5 : Hid (WayR X5 (.slice A m c) q m) := Lib.hid (PYX4.out.below hB)
  have PBX5 : Hid (Below w.heap.size w X5) := Lib.hid (PBX4.out.trans (hB.mono PBX4.out.size))
  have NX5 : Hid (WayR X5 (.slice A9 m c9) q m) := Lib.hid (NX4.out.below hB)
  clear PSX4 PRX4 PDX4 PYX4 PBX4 NX4 hB
  refine ⟨_, rfl, hK.out _ _ (⟨PSX5.out, PRX5.out, PDX5.out⟩) (fun hHeld => ?_)⟩
  clear hK K
  show wpAnyH _ _ _ _ _ _ _ (Act.put _ (some 31) _) _
  simp only [Act.put, List.setIfInBounds_toArray, List.set_cons_zero, List.set_cons_succ]
  refine wpAnyH_take (i := 16) (v := .bool true) rfl (by kernel_rfl) (by kernel_rfl) (by kernel_rfl) (fun _ _ _ h => h) (Or.inl ⟨by rfl, by intro w' h; go_simp⟩) hHeld ?_
  show wpAnyH _ _ _ _ _ _ _ (Act.put _ (some 32) _) _
  simp only [Act.put, List.setIfInBounds_toArray, List.set_cons_zero, List.set_cons_succ]
  refine wpAnyH_take (i := 17) (v := .bool true) rfl (by kernel_rfl) (by kernel_rfl) (by kernel_rfl) (fun _ _ _ h => h) (Or.inl ⟨by rfl, by intro w hSw; first | rfl | go_simp⟩) hHeld ?_
  show wpAnyH _ _ _ _ _ _ _ (Act.put _ (some 33) _) _
  simp only [Act.put, List.setIfInBounds_toArray, List.set_cons_zero, List.set_cons_succ]
  refine wpAnyH_take (i := 18) (v := .bool true) rfl (by kernel_rfl) (by kernel_rfl) (by kernel_rfl) (fun _ _ _ h => h) (Or.inl ⟨by rfl, fun w _ => by rfl⟩) hHeld ?_
  show wpAnyH _ _ _ _ _ _ _ (Act.put _ (some 10) _) _
  simp only [Act.put, List.setIfInBounds_toArray, List.set_cons_zero, List.set_cons_succ]
  refine wpAnyH_done (by kernel_rfl) ?_ _
  clear hHeld
  go_wp2
  go_ret
  exact ⟨rfl, PBX5.out⟩
theorem ringRights_walk (S : List Nat) (kk : Nat) (A : Option Addr) (m c : Nat) (q : Nat → List Nat) (root : List Nat) (tall : Int) (key : Nat) (d : List Nat) (w : World) (HT : Hid (Tab w)) (HSL : Hid (S.length = 1024)) (HSP : Hid (∀ x ∈ S, x < 256)) (h2 : kk < 4294967296)
    (HQ : Hid (∀ a, (q a).length = 32)) (HQP : Hid (∀ a, ∀ x ∈ q a, x < 256)) (HY : Hid (WayR w (.slice A m c) q m)) (hmm : m ≤ maxLen) (HRL : Hid (root.length = 32)) (_HRP : Hid (∀ x ∈ root, x < 256)) (_ht : -9223372036854775808 ≤ tall ∧ tall ≤ 9223372036854775807) (h1 : key < 4294967296) (HDL : Hid (d.length = 32)) (HDP : Hid (∀ x ∈ d, x < 256)) :
    Calls Tryd.prog 10 #[.agg (rsg S kk (.slice A m c)).toArray, .agg (w8 root).toArray, .int .i64 tall, .int .u32 (key : Int), .agg (w8 d).toArray] w fun e w' => e = .returned (.bool true) ∧ Below w.heap.size w w' := by
  by_cases hm : m ≤ 60
  · exact rights_light S root d kk key m A c q tall w HT HSL HSP HRL HDL HDP HQ HQP HY h1 h2 hm
  · exact rights_dark S root d kk key m A c tall w HT HSL (by omega) hmm
end Go.Proofs.YtkonokjhpddbfaaDoor
