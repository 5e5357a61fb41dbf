/-
  ChartTurns' walk.
-/
import Derived.Test.YtjbjekejekmipaaLawB
import Derived.Test.YtjbjekejekmipaaStep2
namespace Go.Proofs.Ytjbjekejekmipaa
open Go.RowKit
set_option linter.unusedVariables false

theorem turn_ok {a b p q n : Int} (h : (turnP a b p q n).e = 0) : On a b ∧ On p q ∧ On (turnP a b p q n).x (turnP a b p q n).y ∧ turnP a b p q n = ⟨p + rotX (n % 4).toNat (a - p) (b - q), q + rotY (n % 4).toNat (a - p) (b - q), 0⟩ := by
  unfold turnP at h ⊢
  split at h
  · rename_i h1
    rw [if_pos h1]
    unfold held at h ⊢
    split at h
    · rename_i h2
      rw [if_pos h2]
      exact ⟨h1.1, h1.2, h2, rfl⟩
    · simp at h
  · simp at h

theorem four (n : Int) : (n % 4).toNat = 0 ∨ (n % 4).toNat = 1 ∨ (n % 4).toNat = 2 ∨ (n % 4).toNat = 3 := by omega

theorem sq_neg (t : Int) : -t * -t = t * t := Int.neg_mul_neg t t

theorem turn_far {a b c d p q n : Int} (h1 : (turnP a b p q n).e = 0) (h2 : (turnP c d p q n).e = 0) : farP (turnP a b p q n).x (turnP a b p q n).y (turnP c d p q n).x (turnP c d p q n).y = farP a b c d := by
  obtain ⟨k1, k2, k3, k4⟩ := turn_ok h1
  obtain ⟨l1, l2, l3, l4⟩ := turn_ok h2
  unfold farP
  rw [if_pos ⟨k3, l3⟩, if_pos ⟨k1, l1⟩, k4, l4]
  rcases four n with h | h | h | h
  · rw [h]
    simp only [rotX, rotY]
    rw [show p + (a - p) - (p + (c - p)) = a - c by omega, show q + (b - q) - (q + (d - q)) = b - d by omega]
  · rw [h]
    simp only [rotX, rotY]
    rw [show p + -(b - q) - (p + -(d - q)) = -(b - d) by omega, show q + (a - p) - (q + (c - p)) = a - c by omega, sq_neg]
    omega
  · rw [h]
    simp only [rotX, rotY]
    rw [show p + -(a - p) - (p + -(c - p)) = -(a - c) by omega, show q + -(b - q) - (q + -(d - q)) = -(b - d) by omega, sq_neg, sq_neg]
  · rw [h]
    simp only [rotX, rotY]
    rw [show p + - -(b - q) - (p + - -(d - q)) = b - d by omega, show q + -(a - p) - (q + -(c - p)) = -(a - c) by omega, sq_neg]
    omega

theorem turn_back {a b p q n m : Int} (h1 : (turnP a b p q n).e = 0) (hm : m % 4 = (-n) % 4) : turnP (turnP a b p q n).x (turnP a b p q n).y p q m = ⟨a, b, 0⟩ := by
  obtain ⟨k1, k2, k3, k4⟩ := turn_ok h1
  have key : ∀ u v, u = a → v = b → held u v = ⟨a, b, 0⟩ := by
    rintro u v rfl rfl
    unfold held
    rw [if_pos k1]
  rw [k4] at k3 ⊢
  simp only at k3 ⊢
  unfold turnP
  rw [if_pos ⟨k3, k2⟩, hm]
  rcases four n with h | h | h | h
  · rw [h, show ((-n) % 4).toNat = 0 by omega]
    simp only [rotX, rotY]
    exact key _ _ (by omega) (by omega)
  · rw [h, show ((-n) % 4).toNat = 3 by omega]
    simp only [rotX, rotY]
    exact key _ _ (by omega) (by omega)
  · rw [h, show ((-n) % 4).toNat = 2 by omega]
    simp only [rotX, rotY]
    exact key _ _ (by omega) (by omega)
  · rw [h, show ((-n) % 4).toNat = 1 by omega]
    simp only [rotX, rotY]
    exact key _ _ (by omega) (by omega)

theorem mirror_far {a b c d : Int} (h1 : On a b) (h2 : On c d) : farP a (-b) c (-d) = farP a b c d := by
  have h3 : On a (-b) := ⟨h1.1, h1.2.1, by have := h1.2.2.2; omega, by have := h1.2.2.1; omega⟩
  have h4 : On c (-d) := ⟨h2.1, h2.2.1, by have := h2.2.2.2; omega, by have := h2.2.2.1; omega⟩
  unfold farP
  rw [if_pos ⟨h3, h4⟩, if_pos ⟨h1, h2⟩, show -b - -d = -(b - d) by omega, sq_neg]

theorem tmod4_bound (n : Int) : -4 ≤ n.tmod 4 ∧ n.tmod 4 ≤ 3 := by
  rcases Int.lt_or_le (n.tmod 4) 0 with h | h
  · have h2 := tmod4_neg h
    generalize n.tmod 4 = t at h h2 ⊢
    omega
  · have h2 := tmod4_pos h
    generalize n.tmod 4 = t at h h2 ⊢
    omega
theorem tmod4_mod (n : Int) : n.tmod 4 % 4 = n % 4 := by
  rcases Int.lt_or_le (n.tmod 4) 0 with h | h
  · have h2 := tmod4_neg h
    generalize n.tmod 4 = t at h h2 ⊢
    omega
  · have h2 := tmod4_pos h
    generalize n.tmod 4 = t at h h2 ⊢
    omega
theorem tmod4_back (n : Int) : ((4 - n.tmod 4).tmod 4) % 4 = (-n) % 4 := by
  rw [tmod4_mod]
  have h := tmod4_mod n
  generalize n.tmod 4 = t at h ⊢
  omega


set_option maxRecDepth 100000 in
set_option maxHeartbeats 4000000 in
theorem turns_walk (a b c d p q n : Int) (w : World) (ha : I64 a) (hb : I64 b) (hc : I64 c) (hd : I64 d) (hp : I64 p) (hq : I64 q) (hn : I64 n) :
    Calls Try.prog 6 #[.agg #[.int .i64 a, .int .i64 b], .agg #[.int .i64 c, .int .i64 d], .agg #[.int .i64 p, .int .i64 q], .int .i64 n] w fun e w' => e = .returned (.bool true) ∧ Below w.heap.size w w' := by
  clear ha hb hc hd hp hq hn
  go_enter Try.func6, Try.ntmps6
  go_upto_region 1 with fail
  have Q0 : Hid (Pt (((w.alloc (.cells #[.int .i64 a, .int .i64 b] 23)).alloc (.cells #[.int .i64 c, .int .i64 d] 23)).alloc (.cells #[.int .i64 p, .int .i64 q] 23)) (w.heap.size) 23 (a) (b)) := Lib.hid (((Pt.mk_ rfl).alloc _).alloc _)
  have Q1 : Hid (Pt (((w.alloc (.cells #[.int .i64 a, .int .i64 b] 23)).alloc (.cells #[.int .i64 c, .int .i64 d] 23)).alloc (.cells #[.int .i64 p, .int .i64 q] 23)) (w.heap.size + 1) 23 (c) (d)) := Lib.hid ((Pt.mk_ (by simp)).alloc _)
  have Q2 : Hid (Pt (((w.alloc (.cells #[.int .i64 a, .int .i64 b] 23)).alloc (.cells #[.int .i64 c, .int .i64 d] 23)).alloc (.cells #[.int .i64 p, .int .i64 q] 23)) (w.heap.size + 1 + 1) 23 (p) (q)) := Lib.hid (Pt.mk_ (by simp))
  have HW1 : Hid (Below w.heap.size w (((w.alloc (.cells #[.int .i64 a, .int .i64 b] 23)).alloc (.cells #[.int .i64 c, .int .i64 d] 23)).alloc (.cells #[.int .i64 p, .int .i64 q] 23))) := Lib.hid ((((Below.refl _ _).alloc (Nat.le_refl _) _).alloc (by simp) _).alloc (by simp; omega) _)
  generalize (((w.alloc (.cells #[.int .i64 a, .int .i64 b] 23)).alloc (.cells #[.int .i64 c, .int .i64 d] 23)).alloc (.cells #[.int .i64 p, .int .i64 q] 23)) = W at Q0 Q1 Q2 HW1  ⊢
  go_cut [9, 10, 11] (fun p1 p2 p3 wc => ∃ g0 g1 g2, p1 = .pointer (some ⟨g0, 0, none⟩) ∧ p2 = .pointer (some ⟨g1, 0, none⟩) ∧ p3 = .pointer (some ⟨g2, 0, none⟩) ∧ Hid (Pt wc g0 24 a b) ∧ Hid (Pt wc g1 24 c d) ∧ Hid (Pt wc g2 24 p q) ∧ Hid (Below w.heap.size w wc))
  case first =>
    replace Q0 : Hid (Pt W.drew (w.heap.size) 23 a b) := Lib.hid Q0.out
    replace Q1 : Hid (Pt W.drew (w.heap.size + 1) 23 c d) := Lib.hid Q1.out
    replace Q2 : Hid (Pt W.drew (w.heap.size + 1 + 1) 23 p q) := Lib.hid Q2.out
    replace HW1 : Hid (Below w.heap.size w W.drew) := Lib.hid (below_drewN HW1.out 1)
    refine wp_region_held_drew (S := fun w' => Pt w' (w.heap.size) 23 a b ∧ Pt w' (w.heap.size + 1) 23 c d ∧ Pt w' (w.heap.size + 1 + 1) 23 p q) (by kernel_rfl) (⟨Q0.out, Q1.out, Q2.out⟩) (fun hHeld => ?_)
    generalize W.drew = X at hHeld Q0 Q1 Q2 HW1 ⊢
    refine wpAnyH_take (i := 0) (v := .agg #[.int .i64 a, .int .i64 b]) rfl (by kernel_rfl) (by kernel_rfl) (by kernel_rfl) (fun _ _ _ h => h) (Or.inl ⟨by rfl, by intro w' h; have k1 := (h.1).c0; have k2 := (h.1).c1; go_simp⟩) hHeld ?_
    show wpAnyH _ _ _ _ _ _ _ (Act.put _ (some 23) _) _
    simp only [Act.put, List.setIfInBounds_toArray, List.set_cons_zero, List.set_cons_succ]
    refine wpAnyH_take (i := 2) (v := .agg #[.int .i64 c, .int .i64 d]) rfl (by kernel_rfl) (by kernel_rfl) (by kernel_rfl) (fun _ _ _ h => h) (Or.inl ⟨by rfl, by intro w' h; have k1 := (h.2.1).c0; have k2 := (h.2.1).c1; go_simp⟩) hHeld ?_
    show wpAnyH _ _ _ _ _ _ _ (Act.put _ (some 25) _) _
    simp only [Act.put, List.setIfInBounds_toArray, List.set_cons_zero, List.set_cons_succ]
    refine wpAnyH_take (i := 4) (v := .agg #[.int .i64 p, .int .i64 q]) rfl (by kernel_rfl) (by kernel_rfl) (by kernel_rfl) (fun _ _ _ h => h) (Or.inl ⟨by rfl, by intro w' h; have k1 := (h.2.2).c0; have k2 := (h.2.2).c1; go_simp⟩) hHeld ?_
    show wpAnyH _ _ _ _ _ _ _ (Act.put _ (some 27) _) _
    simp only [Act.put, List.setIfInBounds_toArray, List.set_cons_zero, List.set_cons_succ]
    repeat' (first
      | (have hT := T3
         clear hT
         refine wpAnyH_done (by kernel_rfl) ?_ _
         go_wp2_with fail
         go_meet
         exact ⟨g0, g1, g2, rfl, rfl, rfl, N0, N1, N2, HW1⟩)
      | (have hT := T2
         clear hT
         refine wpAnyH_ready (rs := [11]) (by kernel_rfl) (by simp) ?_
         refine AllReadyH.cons rfl (fun K hK => ?_) AllReadyH.nil
         refine step_keep 11 rfl (.tmp 28) rfl g2 24 0 0 p q rfl rfl N2.out ?_
         intro X hN hS
         replace Q0 := Lib.hid (hS.far _ _ _ _ F02.out Q0.out)
         replace Q1 := Lib.hid (hS.far _ _ _ _ F12.out Q1.out)
         replace Q2 := Lib.hid (hS.far _ _ _ _ F22.out Q2.out)
         replace N0 := Lib.hid (hS.far _ _ _ _ (by have h := D02.out; omega) N0.out)
         replace N1 := Lib.hid (hS.far _ _ _ _ (by have h := D12.out; omega) N1.out)
         replace N2 := Lib.hid hN
         replace HW1 := Lib.hid (hS.up _ _ L2.out HW1.out)
         have T3 : True := trivial
         clear hN hS T2
         refine hK.out _ _ (⟨Q0.out, Q1.out, Q2.out⟩) (fun hHeld => ?_)
         clear hK K
         show wpAnyH _ _ _ _ _ _ _ (Act.put _ none _) _
         simp only [Act.put])
      | (have hT := T1
         clear hT
         refine wpAnyH_ready (rs := [10]) (by kernel_rfl) (by simp) ?_
         refine AllReadyH.cons rfl (fun K hK => ?_) AllReadyH.nil
         refine step_keep 10 rfl (.tmp 26) rfl g1 24 0 0 c d rfl rfl N1.out ?_
         intro X hN hS
         replace Q0 := Lib.hid (hS.far _ _ _ _ F01.out Q0.out)
         replace Q1 := Lib.hid (hS.far _ _ _ _ F11.out Q1.out)
         replace Q2 := Lib.hid (hS.far _ _ _ _ F21.out Q2.out)
         replace N0 := Lib.hid (hS.far _ _ _ _ (by have h := D01.out; omega) N0.out)
         replace N2 := Lib.hid (hS.far _ _ _ _ (by have h := D12.out; omega) N2.out)
         replace N1 := Lib.hid hN
         replace HW1 := Lib.hid (hS.up _ _ L1.out HW1.out)
         have T2 : True := trivial
         clear hN hS T1
         refine hK.out _ _ (⟨Q0.out, Q1.out, Q2.out⟩) (fun hHeld => ?_)
         clear hK K
         show wpAnyH _ _ _ _ _ _ _ (Act.put _ none _) _
         simp only [Act.put])
      | (have hC := C3
         have h0 := N0
         have h1 := N1
         have h2 := N2
         clear hC h0 h1 h2
         refine wpAnyH_ready (rs := [9]) (by kernel_rfl) (by simp) ?_
         refine AllReadyH.cons rfl (fun K hK => ?_) AllReadyH.nil
         refine step_keep 9 rfl (.tmp 24) rfl g0 24 0 0 a b rfl rfl N0.out ?_
         intro X hN hS
         replace Q0 := Lib.hid (hS.far _ _ _ _ F00.out Q0.out)
         replace Q1 := Lib.hid (hS.far _ _ _ _ F10.out Q1.out)
         replace Q2 := Lib.hid (hS.far _ _ _ _ F20.out Q2.out)
         replace N1 := Lib.hid (hS.far _ _ _ _ (by have h := D01.out; omega) N1.out)
         replace N2 := Lib.hid (hS.far _ _ _ _ (by have h := D02.out; omega) N2.out)
         replace N0 := Lib.hid hN
         replace HW1 := Lib.hid (hS.up _ _ L0.out HW1.out)
         have T1 : True := trivial
         clear hN hS
         refine hK.out _ _ (⟨Q0.out, Q1.out, Q2.out⟩) (fun hHeld => ?_)
         clear hK K
         show wpAnyH _ _ _ _ _ _ _ (Act.put _ none _) _
         simp only [Act.put])
      | (have hC := C2
         clear hC
         have hN := N0
         clear hN
         have hN := N1
         clear hN
         have hN := N2
         clear hN
         refine wpAnyH_ready (rs := [5]) (by kernel_rfl) (by simp) ?_
         refine AllReadyH.cons rfl (fun K hK => ?_) AllReadyH.nil
         refine step_call rfl 14 #[.tmp 27] #[23] rfl #[.agg #[.int .i64 p, .int .i64 q]] (by simp [Act.eval]) (by go_simp) (to_any _ _ _) ?_
         rintro e X ⟨rfl, hB⟩
         replace HW1 := Lib.hid (HW1.out.trans (hB.mono HW1.out.size))
         replace Q0 := Lib.hid (Q0.out.keep hB)
         replace Q1 := Lib.hid (Q1.out.keep hB)
         replace Q2 := Lib.hid (Q2.out.keep hB)
         replace N0 := Lib.hid (N0.out.keep hB)
         replace N1 := Lib.hid (N1.out.keep hB)
         replace N2 := Lib.hid (N2.out.keep hB)
         have C3 : True := trivial
         clear hB C2
         refine ⟨_, rfl, hK.out _ _ (⟨Q0.out, Q1.out, Q2.out⟩) (fun hHeld => ?_)⟩
         clear hK K
         show wpAnyH _ _ _ _ _ _ _ (Act.put _ (some 28) _) _
         simp only [Act.put, List.setIfInBounds_toArray, List.set_cons_zero, List.set_cons_succ])
      | (have hC := C3
         clear hC
         have hN := N0
         clear hN
         have hN := N1
         clear hN
         fail_if_success have hN := N2
         refine wpAnyH_ready (rs := [8]) (by kernel_rfl) (by simp) ?_
         refine AllReadyH.cons rfl (fun K hK => ?_) AllReadyH.nil
         refine step_spot 11 rfl rfl rfl ?_
         intro X g2 hN hg hB
         have F02 : Hid ((w.heap.size) ≠ g2) := Lib.hid (by have h := Q0.out.lt; omega)
         have F12 : Hid ((w.heap.size + 1) ≠ g2) := Lib.hid (by have h := Q1.out.lt; omega)
         have F22 : Hid ((w.heap.size + 1 + 1) ≠ g2) := Lib.hid (by have h := Q2.out.lt; omega)
         have D02 : Hid (g0 ≠ g2) := Lib.hid (by have h := N0.out.lt; omega)
         have D12 : Hid (g1 ≠ g2) := Lib.hid (by have h := N1.out.lt; omega)
         have L2 : Hid (w.heap.size ≤ g2) := Lib.hid (Nat.le_trans HW1.out.size hg)
         replace HW1 := Lib.hid (HW1.out.trans (hB.mono HW1.out.size))
         replace Q0 := Lib.hid (Q0.out.keep hB)
         replace Q1 := Lib.hid (Q1.out.keep hB)
         replace Q2 := Lib.hid (Q2.out.keep hB)
         replace N0 := Lib.hid (N0.out.keep hB)
         replace N1 := Lib.hid (N1.out.keep hB)
         have N2 := Lib.hid hN
         clear hB hg hN
         refine hK.out _ _ (⟨Q0.out, Q1.out, Q2.out⟩) (fun hHeld => ?_)
         clear hK K
         show wpAnyH _ _ _ _ _ _ _ (Act.put _ (some 11) _) _
         simp only [Act.put, List.setIfInBounds_toArray, List.set_cons_zero, List.set_cons_succ])
      | (have hC := C3
         clear hC
         have hN := N0
         clear hN
         fail_if_success have hN := N1
         have hN := N2
         clear hN
         refine wpAnyH_ready (rs := [7]) (by kernel_rfl) (by simp) ?_
         refine AllReadyH.cons rfl (fun K hK => ?_) AllReadyH.nil
         refine step_spot 10 rfl rfl rfl ?_
         intro X g1 hN hg hB
         have F01 : Hid ((w.heap.size) ≠ g1) := Lib.hid (by have h := Q0.out.lt; omega)
         have F11 : Hid ((w.heap.size + 1) ≠ g1) := Lib.hid (by have h := Q1.out.lt; omega)
         have F21 : Hid ((w.heap.size + 1 + 1) ≠ g1) := Lib.hid (by have h := Q2.out.lt; omega)
         have D01 : Hid (g0 ≠ g1) := Lib.hid (by have h := N0.out.lt; omega)
         have D12 : Hid (g2 ≠ g1) := Lib.hid (by have h := N2.out.lt; omega)
         have L1 : Hid (w.heap.size ≤ g1) := Lib.hid (Nat.le_trans HW1.out.size hg)
         replace HW1 := Lib.hid (HW1.out.trans (hB.mono HW1.out.size))
         replace Q0 := Lib.hid (Q0.out.keep hB)
         replace Q1 := Lib.hid (Q1.out.keep hB)
         replace Q2 := Lib.hid (Q2.out.keep hB)
         replace N0 := Lib.hid (N0.out.keep hB)
         replace N2 := Lib.hid (N2.out.keep hB)
         have N1 := Lib.hid hN
         clear hB hg hN
         refine hK.out _ _ (⟨Q0.out, Q1.out, Q2.out⟩) (fun hHeld => ?_)
         clear hK K
         show wpAnyH _ _ _ _ _ _ _ (Act.put _ (some 10) _) _
         simp only [Act.put, List.setIfInBounds_toArray, List.set_cons_zero, List.set_cons_succ])
      | (have hC := C3
         clear hC
         fail_if_success have hN := N0
         have hN := N1
         clear hN
         have hN := N2
         clear hN
         refine wpAnyH_ready (rs := [6]) (by kernel_rfl) (by simp) ?_
         refine AllReadyH.cons rfl (fun K hK => ?_) AllReadyH.nil
         refine step_spot 9 rfl rfl rfl ?_
         intro X g0 hN hg hB
         have F00 : Hid ((w.heap.size) ≠ g0) := Lib.hid (by have h := Q0.out.lt; omega)
         have F10 : Hid ((w.heap.size + 1) ≠ g0) := Lib.hid (by have h := Q1.out.lt; omega)
         have F20 : Hid ((w.heap.size + 1 + 1) ≠ g0) := Lib.hid (by have h := Q2.out.lt; omega)
         have D01 : Hid (g1 ≠ g0) := Lib.hid (by have h := N1.out.lt; omega)
         have D02 : Hid (g2 ≠ g0) := Lib.hid (by have h := N2.out.lt; omega)
         have L0 : Hid (w.heap.size ≤ g0) := Lib.hid (Nat.le_trans HW1.out.size hg)
         replace HW1 := Lib.hid (HW1.out.trans (hB.mono HW1.out.size))
         replace Q0 := Lib.hid (Q0.out.keep hB)
         replace Q1 := Lib.hid (Q1.out.keep hB)
         replace Q2 := Lib.hid (Q2.out.keep hB)
         replace N1 := Lib.hid (N1.out.keep hB)
         replace N2 := Lib.hid (N2.out.keep hB)
         have N0 := Lib.hid hN
         clear hB hg hN
         refine hK.out _ _ (⟨Q0.out, Q1.out, Q2.out⟩) (fun hHeld => ?_)
         clear hK K
         show wpAnyH _ _ _ _ _ _ _ (Act.put _ (some 9) _) _
         simp only [Act.put, List.setIfInBounds_toArray, List.set_cons_zero, List.set_cons_succ])
      | (have hC := C1
         clear hC
         have hN := N0
         clear hN
         have hN := N1
         clear hN
         have hN := N2
         clear hN
         refine wpAnyH_ready (rs := [3]) (by kernel_rfl) (by simp) ?_
         refine AllReadyH.cons rfl (fun K hK => ?_) AllReadyH.nil
         refine step_call rfl 14 #[.tmp 25] #[23] rfl #[.agg #[.int .i64 c, .int .i64 d]] (by simp [Act.eval]) (by go_simp) (to_any _ _ _) ?_
         rintro e X ⟨rfl, hB⟩
         replace HW1 := Lib.hid (HW1.out.trans (hB.mono HW1.out.size))
         replace Q0 := Lib.hid (Q0.out.keep hB)
         replace Q1 := Lib.hid (Q1.out.keep hB)
         replace Q2 := Lib.hid (Q2.out.keep hB)
         replace N0 := Lib.hid (N0.out.keep hB)
         replace N1 := Lib.hid (N1.out.keep hB)
         replace N2 := Lib.hid (N2.out.keep hB)
         have C2 : True := trivial
         clear hB C1
         refine ⟨_, rfl, hK.out _ _ (⟨Q0.out, Q1.out, Q2.out⟩) (fun hHeld => ?_)⟩
         clear hK K
         show wpAnyH _ _ _ _ _ _ _ (Act.put _ (some 26) _) _
         simp only [Act.put, List.setIfInBounds_toArray, List.set_cons_zero, List.set_cons_succ])
      | (have hC := C2
         clear hC
         have hN := N0
         clear hN
         have hN := N1
         clear hN
         fail_if_success have hN := N2
         refine wpAnyH_ready (rs := [5, 8]) (by kernel_rfl) (by simp) ?_
         refine AllReadyH.cons rfl (fun K hK => ?_) (AllReadyH.cons rfl (fun K hK => ?_) AllReadyH.nil)
         refine step_call rfl 14 #[.tmp 27] #[23] rfl #[.agg #[.int .i64 p, .int .i64 q]] (by simp [Act.eval]) (by go_simp) (to_any _ _ _) ?_
         rintro e X ⟨rfl, hB⟩
         replace HW1 := Lib.hid (HW1.out.trans (hB.mono HW1.out.size))
         replace Q0 := Lib.hid (Q0.out.keep hB)
         replace Q1 := Lib.hid (Q1.out.keep hB)
         replace Q2 := Lib.hid (Q2.out.keep hB)
         replace N0 := Lib.hid (N0.out.keep hB)
         replace N1 := Lib.hid (N1.out.keep hB)
         have C3 : True := trivial
         clear hB C2
         refine ⟨_, rfl, hK.out _ _ (⟨Q0.out, Q1.out, Q2.out⟩) (fun hHeld => ?_)⟩
         clear hK K
         show wpAnyH _ _ _ _ _ _ _ (Act.put _ (some 28) _) _
         simp only [Act.put, List.setIfInBounds_toArray, List.set_cons_zero, List.set_cons_succ]
         rotate_left
         refine step_spot 11 rfl rfl rfl ?_
         intro X g2 hN hg hB
         have F02 : Hid ((w.heap.size) ≠ g2) := Lib.hid (by have h := Q0.out.lt; omega)
         have F12 : Hid ((w.heap.size + 1) ≠ g2) := Lib.hid (by have h := Q1.out.lt; omega)
         have F22 : Hid ((w.heap.size + 1 + 1) ≠ g2) := Lib.hid (by have h := Q2.out.lt; omega)
         have D02 : Hid (g0 ≠ g2) := Lib.hid (by have h := N0.out.lt; omega)
         have D12 : Hid (g1 ≠ g2) := Lib.hid (by have h := N1.out.lt; omega)
         have L2 : Hid (w.heap.size ≤ g2) := Lib.hid (Nat.le_trans HW1.out.size hg)
         replace HW1 := Lib.hid (HW1.out.trans (hB.mono HW1.out.size))
         replace Q0 := Lib.hid (Q0.out.keep hB)
         replace Q1 := Lib.hid (Q1.out.keep hB)
         replace Q2 := Lib.hid (Q2.out.keep hB)
         replace N0 := Lib.hid (N0.out.keep hB)
         replace N1 := Lib.hid (N1.out.keep hB)
         have N2 := Lib.hid hN
         clear hB hg hN
         refine hK.out _ _ (⟨Q0.out, Q1.out, Q2.out⟩) (fun hHeld => ?_)
         clear hK K
         show wpAnyH _ _ _ _ _ _ _ (Act.put _ (some 11) _) _
         simp only [Act.put, List.setIfInBounds_toArray, List.set_cons_zero, List.set_cons_succ]
         rotate_left)
      | (have hC := C2
         clear hC
         have hN := N0
         clear hN
         fail_if_success have hN := N1
         have hN := N2
         clear hN
         refine wpAnyH_ready (rs := [5, 7]) (by kernel_rfl) (by simp) ?_
         refine AllReadyH.cons rfl (fun K hK => ?_) (AllReadyH.cons rfl (fun K hK => ?_) AllReadyH.nil)
         refine step_call rfl 14 #[.tmp 27] #[23] rfl #[.agg #[.int .i64 p, .int .i64 q]] (by simp [Act.eval]) (by go_simp) (to_any _ _ _) ?_
         rintro e X ⟨rfl, hB⟩
         replace HW1 := Lib.hid (HW1.out.trans (hB.mono HW1.out.size))
         replace Q0 := Lib.hid (Q0.out.keep hB)
         replace Q1 := Lib.hid (Q1.out.keep hB)
         replace Q2 := Lib.hid (Q2.out.keep hB)
         replace N0 := Lib.hid (N0.out.keep hB)
         replace N2 := Lib.hid (N2.out.keep hB)
         have C3 : True := trivial
         clear hB C2
         refine ⟨_, rfl, hK.out _ _ (⟨Q0.out, Q1.out, Q2.out⟩) (fun hHeld => ?_)⟩
         clear hK K
         show wpAnyH _ _ _ _ _ _ _ (Act.put _ (some 28) _) _
         simp only [Act.put, List.setIfInBounds_toArray, List.set_cons_zero, List.set_cons_succ]
         rotate_left
         refine step_spot 10 rfl rfl rfl ?_
         intro X g1 hN hg hB
         have F01 : Hid ((w.heap.size) ≠ g1) := Lib.hid (by have h := Q0.out.lt; omega)
         have F11 : Hid ((w.heap.size + 1) ≠ g1) := Lib.hid (by have h := Q1.out.lt; omega)
         have F21 : Hid ((w.heap.size + 1 + 1) ≠ g1) := Lib.hid (by have h := Q2.out.lt; omega)
         have D01 : Hid (g0 ≠ g1) := Lib.hid (by have h := N0.out.lt; omega)
         have D12 : Hid (g2 ≠ g1) := Lib.hid (by have h := N2.out.lt; omega)
         have L1 : Hid (w.heap.size ≤ g1) := Lib.hid (Nat.le_trans HW1.out.size hg)
         replace HW1 := Lib.hid (HW1.out.trans (hB.mono HW1.out.size))
         replace Q0 := Lib.hid (Q0.out.keep hB)
         replace Q1 := Lib.hid (Q1.out.keep hB)
         replace Q2 := Lib.hid (Q2.out.keep hB)
         replace N0 := Lib.hid (N0.out.keep hB)
         replace N2 := Lib.hid (N2.out.keep hB)
         have N1 := Lib.hid hN
         clear hB hg hN
         refine hK.out _ _ (⟨Q0.out, Q1.out, Q2.out⟩) (fun hHeld => ?_)
         clear hK K
         show wpAnyH _ _ _ _ _ _ _ (Act.put _ (some 10) _) _
         simp only [Act.put, List.setIfInBounds_toArray, List.set_cons_zero, List.set_cons_succ]
         rotate_left)
      | (have hC := C2
         clear hC
         fail_if_success have hN := N0
         have hN := N1
         clear hN
         have hN := N2
         clear hN
         refine wpAnyH_ready (rs := [5, 6]) (by kernel_rfl) (by simp) ?_
         refine AllReadyH.cons rfl (fun K hK => ?_) (AllReadyH.cons rfl (fun K hK => ?_) AllReadyH.nil)
         refine step_call rfl 14 #[.tmp 27] #[23] rfl #[.agg #[.int .i64 p, .int .i64 q]] (by simp [Act.eval]) (by go_simp) (to_any _ _ _) ?_
         rintro e X ⟨rfl, hB⟩
         replace HW1 := Lib.hid (HW1.out.trans (hB.mono HW1.out.size))
         replace Q0 := Lib.hid (Q0.out.keep hB)
         replace Q1 := Lib.hid (Q1.out.keep hB)
         replace Q2 := Lib.hid (Q2.out.keep hB)
         replace N1 := Lib.hid (N1.out.keep hB)
         replace N2 := Lib.hid (N2.out.keep hB)
         have C3 : True := trivial
         clear hB C2
         refine ⟨_, rfl, hK.out _ _ (⟨Q0.out, Q1.out, Q2.out⟩) (fun hHeld => ?_)⟩
         clear hK K
         show wpAnyH _ _ _ _ _ _ _ (Act.put _ (some 28) _) _
         simp only [Act.put, List.setIfInBounds_toArray, List.set_cons_zero, List.set_cons_succ]
         rotate_left
         refine step_spot 9 rfl rfl rfl ?_
         intro X g0 hN hg hB
         have F00 : Hid ((w.heap.size) ≠ g0) := Lib.hid (by have h := Q0.out.lt; omega)
         have F10 : Hid ((w.heap.size + 1) ≠ g0) := Lib.hid (by have h := Q1.out.lt; omega)
         have F20 : Hid ((w.heap.size + 1 + 1) ≠ g0) := Lib.hid (by have h := Q2.out.lt; omega)
         have D01 : Hid (g1 ≠ g0) := Lib.hid (by have h := N1.out.lt; omega)
         have D02 : Hid (g2 ≠ g0) := Lib.hid (by have h := N2.out.lt; omega)
         have L0 : Hid (w.heap.size ≤ g0) := Lib.hid (Nat.le_trans HW1.out.size hg)
         replace HW1 := Lib.hid (HW1.out.trans (hB.mono HW1.out.size))
         replace Q0 := Lib.hid (Q0.out.keep hB)
         replace Q1 := Lib.hid (Q1.out.keep hB)
         replace Q2 := Lib.hid (Q2.out.keep hB)
         replace N1 := Lib.hid (N1.out.keep hB)
         replace N2 := Lib.hid (N2.out.keep hB)
         have N0 := Lib.hid hN
         clear hB hg hN
         refine hK.out _ _ (⟨Q0.out, Q1.out, Q2.out⟩) (fun hHeld => ?_)
         clear hK K
         show wpAnyH _ _ _ _ _ _ _ (Act.put _ (some 9) _) _
         simp only [Act.put, List.setIfInBounds_toArray, List.set_cons_zero, List.set_cons_succ]
         rotate_left)
      | (have hC := C3
         clear hC
         have hN := N0
         clear hN
         fail_if_success have hN := N1
         fail_if_success have hN := N2
         refine wpAnyH_ready (rs := [7, 8]) (by kernel_rfl) (by simp) ?_
         refine AllReadyH.cons rfl (fun K hK => ?_) (AllReadyH.cons rfl (fun K hK => ?_) AllReadyH.nil)
         refine step_spot 10 rfl rfl rfl ?_
         intro X g1 hN hg hB
         have F01 : Hid ((w.heap.size) ≠ g1) := Lib.hid (by have h := Q0.out.lt; omega)
         have F11 : Hid ((w.heap.size + 1) ≠ g1) := Lib.hid (by have h := Q1.out.lt; omega)
         have F21 : Hid ((w.heap.size + 1 + 1) ≠ g1) := Lib.hid (by have h := Q2.out.lt; omega)
         have D01 : Hid (g0 ≠ g1) := Lib.hid (by have h := N0.out.lt; omega)
         have L1 : Hid (w.heap.size ≤ g1) := Lib.hid (Nat.le_trans HW1.out.size hg)
         replace HW1 := Lib.hid (HW1.out.trans (hB.mono HW1.out.size))
         replace Q0 := Lib.hid (Q0.out.keep hB)
         replace Q1 := Lib.hid (Q1.out.keep hB)
         replace Q2 := Lib.hid (Q2.out.keep hB)
         replace N0 := Lib.hid (N0.out.keep hB)
         have N1 := Lib.hid hN
         clear hB hg hN
         refine hK.out _ _ (⟨Q0.out, Q1.out, Q2.out⟩) (fun hHeld => ?_)
         clear hK K
         show wpAnyH _ _ _ _ _ _ _ (Act.put _ (some 10) _) _
         simp only [Act.put, List.setIfInBounds_toArray, List.set_cons_zero, List.set_cons_succ]
         rotate_left
         refine step_spot 11 rfl rfl rfl ?_
         intro X g2 hN hg hB
         have F02 : Hid ((w.heap.size) ≠ g2) := Lib.hid (by have h := Q0.out.lt; omega)
         have F12 : Hid ((w.heap.size + 1) ≠ g2) := Lib.hid (by have h := Q1.out.lt; omega)
         have F22 : Hid ((w.heap.size + 1 + 1) ≠ g2) := Lib.hid (by have h := Q2.out.lt; omega)
         have D02 : Hid (g0 ≠ g2) := Lib.hid (by have h := N0.out.lt; omega)
         have L2 : Hid (w.heap.size ≤ g2) := Lib.hid (Nat.le_trans HW1.out.size hg)
         replace HW1 := Lib.hid (HW1.out.trans (hB.mono HW1.out.size))
         replace Q0 := Lib.hid (Q0.out.keep hB)
         replace Q1 := Lib.hid (Q1.out.keep hB)
         replace Q2 := Lib.hid (Q2.out.keep hB)
         replace N0 := Lib.hid (N0.out.keep hB)
         have N2 := Lib.hid hN
         clear hB hg hN
         refine hK.out _ _ (⟨Q0.out, Q1.out, Q2.out⟩) (fun hHeld => ?_)
         clear hK K
         show wpAnyH _ _ _ _ _ _ _ (Act.put _ (some 11) _) _
         simp only [Act.put, List.setIfInBounds_toArray, List.set_cons_zero, List.set_cons_succ]
         rotate_left)
      | (have hC := C3
         clear hC
         fail_if_success have hN := N0
         have hN := N1
         clear hN
         fail_if_success have hN := N2
         refine wpAnyH_ready (rs := [6, 8]) (by kernel_rfl) (by simp) ?_
         refine AllReadyH.cons rfl (fun K hK => ?_) (AllReadyH.cons rfl (fun K hK => ?_) AllReadyH.nil)
         refine step_spot 9 rfl rfl rfl ?_
         intro X g0 hN hg hB
         have F00 : Hid ((w.heap.size) ≠ g0) := Lib.hid (by have h := Q0.out.lt; omega)
         have F10 : Hid ((w.heap.size + 1) ≠ g0) := Lib.hid (by have h := Q1.out.lt; omega)
         have F20 : Hid ((w.heap.size + 1 + 1) ≠ g0) := Lib.hid (by have h := Q2.out.lt; omega)
         have D01 : Hid (g1 ≠ g0) := Lib.hid (by have h := N1.out.lt; omega)
         have L0 : Hid (w.heap.size ≤ g0) := Lib.hid (Nat.le_trans HW1.out.size hg)
         replace HW1 := Lib.hid (HW1.out.trans (hB.mono HW1.out.size))
         replace Q0 := Lib.hid (Q0.out.keep hB)
         replace Q1 := Lib.hid (Q1.out.keep hB)
         replace Q2 := Lib.hid (Q2.out.keep hB)
         replace N1 := Lib.hid (N1.out.keep hB)
         have N0 := Lib.hid hN
         clear hB hg hN
         refine hK.out _ _ (⟨Q0.out, Q1.out, Q2.out⟩) (fun hHeld => ?_)
         clear hK K
         show wpAnyH _ _ _ _ _ _ _ (Act.put _ (some 9) _) _
         simp only [Act.put, List.setIfInBounds_toArray, List.set_cons_zero, List.set_cons_succ]
         rotate_left
         refine step_spot 11 rfl rfl rfl ?_
         intro X g2 hN hg hB
         have F02 : Hid ((w.heap.size) ≠ g2) := Lib.hid (by have h := Q0.out.lt; omega)
         have F12 : Hid ((w.heap.size + 1) ≠ g2) := Lib.hid (by have h := Q1.out.lt; omega)
         have F22 : Hid ((w.heap.size + 1 + 1) ≠ g2) := Lib.hid (by have h := Q2.out.lt; omega)
         have D12 : Hid (g1 ≠ g2) := Lib.hid (by have h := N1.out.lt; omega)
         have L2 : Hid (w.heap.size ≤ g2) := Lib.hid (Nat.le_trans HW1.out.size hg)
         replace HW1 := Lib.hid (HW1.out.trans (hB.mono HW1.out.size))
         replace Q0 := Lib.hid (Q0.out.keep hB)
         replace Q1 := Lib.hid (Q1.out.keep hB)
         replace Q2 := Lib.hid (Q2.out.keep hB)
         replace N1 := Lib.hid (N1.out.keep hB)
         have N2 := Lib.hid hN
         clear hB hg hN
         refine hK.out _ _ (⟨Q0.out, Q1.out, Q2.out⟩) (fun hHeld => ?_)
         clear hK K
         show wpAnyH _ _ _ _ _ _ _ (Act.put _ (some 11) _) _
         simp only [Act.put, List.setIfInBounds_toArray, List.set_cons_zero, List.set_cons_succ]
         rotate_left)
      | (have hC := C3
         clear hC
         fail_if_success have hN := N0
         fail_if_success have hN := N1
         have hN := N2
         clear hN
         refine wpAnyH_ready (rs := [6, 7]) (by kernel_rfl) (by simp) ?_
         refine AllReadyH.cons rfl (fun K hK => ?_) (AllReadyH.cons rfl (fun K hK => ?_) AllReadyH.nil)
         refine step_spot 9 rfl rfl rfl ?_
         intro X g0 hN hg hB
         have F00 : Hid ((w.heap.size) ≠ g0) := Lib.hid (by have h := Q0.out.lt; omega)
         have F10 : Hid ((w.heap.size + 1) ≠ g0) := Lib.hid (by have h := Q1.out.lt; omega)
         have F20 : Hid ((w.heap.size + 1 + 1) ≠ g0) := Lib.hid (by have h := Q2.out.lt; omega)
         have D02 : Hid (g2 ≠ g0) := Lib.hid (by have h := N2.out.lt; omega)
         have L0 : Hid (w.heap.size ≤ g0) := Lib.hid (Nat.le_trans HW1.out.size hg)
         replace HW1 := Lib.hid (HW1.out.trans (hB.mono HW1.out.size))
         replace Q0 := Lib.hid (Q0.out.keep hB)
         replace Q1 := Lib.hid (Q1.out.keep hB)
         replace Q2 := Lib.hid (Q2.out.keep hB)
         replace N2 := Lib.hid (N2.out.keep hB)
         have N0 := Lib.hid hN
         clear hB hg hN
         refine hK.out _ _ (⟨Q0.out, Q1.out, Q2.out⟩) (fun hHeld => ?_)
         clear hK K
         show wpAnyH _ _ _ _ _ _ _ (Act.put _ (some 9) _) _
         simp only [Act.put, List.setIfInBounds_toArray, List.set_cons_zero, List.set_cons_succ]
         rotate_left
         refine step_spot 10 rfl rfl rfl ?_
         intro X g1 hN hg hB
         have F01 : Hid ((w.heap.size) ≠ g1) := Lib.hid (by have h := Q0.out.lt; omega)
         have F11 : Hid ((w.heap.size + 1) ≠ g1) := Lib.hid (by have h := Q1.out.lt; omega)
         have F21 : Hid ((w.heap.size + 1 + 1) ≠ g1) := Lib.hid (by have h := Q2.out.lt; omega)
         have D12 : Hid (g2 ≠ g1) := Lib.hid (by have h := N2.out.lt; omega)
         have L1 : Hid (w.heap.size ≤ g1) := Lib.hid (Nat.le_trans HW1.out.size hg)
         replace HW1 := Lib.hid (HW1.out.trans (hB.mono HW1.out.size))
         replace Q0 := Lib.hid (Q0.out.keep hB)
         replace Q1 := Lib.hid (Q1.out.keep hB)
         replace Q2 := Lib.hid (Q2.out.keep hB)
         replace N2 := Lib.hid (N2.out.keep hB)
         have N1 := Lib.hid hN
         clear hB hg hN
         refine hK.out _ _ (⟨Q0.out, Q1.out, Q2.out⟩) (fun hHeld => ?_)
         clear hK K
         show wpAnyH _ _ _ _ _ _ _ (Act.put _ (some 10) _) _
         simp only [Act.put, List.setIfInBounds_toArray, List.set_cons_zero, List.set_cons_succ]
         rotate_left)
      | (fail_if_success have hC := C1
         fail_if_success have hC := C2
         fail_if_success have hC := C3
         have hN := N0
         clear hN
         have hN := N1
         clear hN
         have hN := N2
         clear hN
         refine wpAnyH_ready (rs := [1]) (by kernel_rfl) (by simp) ?_
         refine AllReadyH.cons rfl (fun K hK => ?_) AllReadyH.nil
         refine step_call rfl 14 #[.tmp 23] #[23] rfl #[.agg #[.int .i64 a, .int .i64 b]] (by simp [Act.eval]) (by go_simp) (to_any _ _ _) ?_
         rintro e X ⟨rfl, hB⟩
         replace HW1 := Lib.hid (HW1.out.trans (hB.mono HW1.out.size))
         replace Q0 := Lib.hid (Q0.out.keep hB)
         replace Q1 := Lib.hid (Q1.out.keep hB)
         replace Q2 := Lib.hid (Q2.out.keep hB)
         replace N0 := Lib.hid (N0.out.keep hB)
         replace N1 := Lib.hid (N1.out.keep hB)
         replace N2 := Lib.hid (N2.out.keep hB)
         have C1 : True := trivial
         clear hB
         refine ⟨_, rfl, hK.out _ _ (⟨Q0.out, Q1.out, Q2.out⟩) (fun hHeld => ?_)⟩
         clear hK K
         show wpAnyH _ _ _ _ _ _ _ (Act.put _ (some 24) _) _
         simp only [Act.put, List.setIfInBounds_toArray, List.set_cons_zero, List.set_cons_succ])
      | (have hC := C1
         clear hC
         have hN := N0
         clear hN
         have hN := N1
         clear hN
         fail_if_success have hN := N2
         refine wpAnyH_ready (rs := [3, 8]) (by kernel_rfl) (by simp) ?_
         refine AllReadyH.cons rfl (fun K hK => ?_) (AllReadyH.cons rfl (fun K hK => ?_) AllReadyH.nil)
         refine step_call rfl 14 #[.tmp 25] #[23] rfl #[.agg #[.int .i64 c, .int .i64 d]] (by simp [Act.eval]) (by go_simp) (to_any _ _ _) ?_
         rintro e X ⟨rfl, hB⟩
         replace HW1 := Lib.hid (HW1.out.trans (hB.mono HW1.out.size))
         replace Q0 := Lib.hid (Q0.out.keep hB)
         replace Q1 := Lib.hid (Q1.out.keep hB)
         replace Q2 := Lib.hid (Q2.out.keep hB)
         replace N0 := Lib.hid (N0.out.keep hB)
         replace N1 := Lib.hid (N1.out.keep hB)
         have C2 : True := trivial
         clear hB C1
         refine ⟨_, rfl, hK.out _ _ (⟨Q0.out, Q1.out, Q2.out⟩) (fun hHeld => ?_)⟩
         clear hK K
         show wpAnyH _ _ _ _ _ _ _ (Act.put _ (some 26) _) _
         simp only [Act.put, List.setIfInBounds_toArray, List.set_cons_zero, List.set_cons_succ]
         rotate_left
         refine step_spot 11 rfl rfl rfl ?_
         intro X g2 hN hg hB
         have F02 : Hid ((w.heap.size) ≠ g2) := Lib.hid (by have h := Q0.out.lt; omega)
         have F12 : Hid ((w.heap.size + 1) ≠ g2) := Lib.hid (by have h := Q1.out.lt; omega)
         have F22 : Hid ((w.heap.size + 1 + 1) ≠ g2) := Lib.hid (by have h := Q2.out.lt; omega)
         have D02 : Hid (g0 ≠ g2) := Lib.hid (by have h := N0.out.lt; omega)
         have D12 : Hid (g1 ≠ g2) := Lib.hid (by have h := N1.out.lt; omega)
         have L2 : Hid (w.heap.size ≤ g2) := Lib.hid (Nat.le_trans HW1.out.size hg)
         replace HW1 := Lib.hid (HW1.out.trans (hB.mono HW1.out.size))
         replace Q0 := Lib.hid (Q0.out.keep hB)
         replace Q1 := Lib.hid (Q1.out.keep hB)
         replace Q2 := Lib.hid (Q2.out.keep hB)
         replace N0 := Lib.hid (N0.out.keep hB)
         replace N1 := Lib.hid (N1.out.keep hB)
         have N2 := Lib.hid hN
         clear hB hg hN
         refine hK.out _ _ (⟨Q0.out, Q1.out, Q2.out⟩) (fun hHeld => ?_)
         clear hK K
         show wpAnyH _ _ _ _ _ _ _ (Act.put _ (some 11) _) _
         simp only [Act.put, List.setIfInBounds_toArray, List.set_cons_zero, List.set_cons_succ]
         rotate_left)
      | (have hC := C1
         clear hC
         have hN := N0
         clear hN
         fail_if_success have hN := N1
         have hN := N2
         clear hN
         refine wpAnyH_ready (rs := [3, 7]) (by kernel_rfl) (by simp) ?_
         refine AllReadyH.cons rfl (fun K hK => ?_) (AllReadyH.cons rfl (fun K hK => ?_) AllReadyH.nil)
         refine step_call rfl 14 #[.tmp 25] #[23] rfl #[.agg #[.int .i64 c, .int .i64 d]] (by simp [Act.eval]) (by go_simp) (to_any _ _ _) ?_
         rintro e X ⟨rfl, hB⟩
         replace HW1 := Lib.hid (HW1.out.trans (hB.mono HW1.out.size))
         replace Q0 := Lib.hid (Q0.out.keep hB)
         replace Q1 := Lib.hid (Q1.out.keep hB)
         replace Q2 := Lib.hid (Q2.out.keep hB)
         replace N0 := Lib.hid (N0.out.keep hB)
         replace N2 := Lib.hid (N2.out.keep hB)
         have C2 : True := trivial
         clear hB C1
         refine ⟨_, rfl, hK.out _ _ (⟨Q0.out, Q1.out, Q2.out⟩) (fun hHeld => ?_)⟩
         clear hK K
         show wpAnyH _ _ _ _ _ _ _ (Act.put _ (some 26) _) _
         simp only [Act.put, List.setIfInBounds_toArray, List.set_cons_zero, List.set_cons_succ]
         rotate_left
         refine step_spot 10 rfl rfl rfl ?_
         intro X g1 hN hg hB
         have F01 : Hid ((w.heap.size) ≠ g1) := Lib.hid (by have h := Q0.out.lt; omega)
         have F11 : Hid ((w.heap.size + 1) ≠ g1) := Lib.hid (by have h := Q1.out.lt; omega)
         have F21 : Hid ((w.heap.size + 1 + 1) ≠ g1) := Lib.hid (by have h := Q2.out.lt; omega)
         have D01 : Hid (g0 ≠ g1) := Lib.hid (by have h := N0.out.lt; omega)
         have D12 : Hid (g2 ≠ g1) := Lib.hid (by have h := N2.out.lt; omega)
         have L1 : Hid (w.heap.size ≤ g1) := Lib.hid (Nat.le_trans HW1.out.size hg)
         replace HW1 := Lib.hid (HW1.out.trans (hB.mono HW1.out.size))
         replace Q0 := Lib.hid (Q0.out.keep hB)
         replace Q1 := Lib.hid (Q1.out.keep hB)
         replace Q2 := Lib.hid (Q2.out.keep hB)
         replace N0 := Lib.hid (N0.out.keep hB)
         replace N2 := Lib.hid (N2.out.keep hB)
         have N1 := Lib.hid hN
         clear hB hg hN
         refine hK.out _ _ (⟨Q0.out, Q1.out, Q2.out⟩) (fun hHeld => ?_)
         clear hK K
         show wpAnyH _ _ _ _ _ _ _ (Act.put _ (some 10) _) _
         simp only [Act.put, List.setIfInBounds_toArray, List.set_cons_zero, List.set_cons_succ]
         rotate_left)
      | (have hC := C1
         clear hC
         fail_if_success have hN := N0
         have hN := N1
         clear hN
         have hN := N2
         clear hN
         refine wpAnyH_ready (rs := [3, 6]) (by kernel_rfl) (by simp) ?_
         refine AllReadyH.cons rfl (fun K hK => ?_) (AllReadyH.cons rfl (fun K hK => ?_) AllReadyH.nil)
         refine step_call rfl 14 #[.tmp 25] #[23] rfl #[.agg #[.int .i64 c, .int .i64 d]] (by simp [Act.eval]) (by go_simp) (to_any _ _ _) ?_
         rintro e X ⟨rfl, hB⟩
         replace HW1 := Lib.hid (HW1.out.trans (hB.mono HW1.out.size))
         replace Q0 := Lib.hid (Q0.out.keep hB)
         replace Q1 := Lib.hid (Q1.out.keep hB)
         replace Q2 := Lib.hid (Q2.out.keep hB)
         replace N1 := Lib.hid (N1.out.keep hB)
         replace N2 := Lib.hid (N2.out.keep hB)
         have C2 : True := trivial
         clear hB C1
         refine ⟨_, rfl, hK.out _ _ (⟨Q0.out, Q1.out, Q2.out⟩) (fun hHeld => ?_)⟩
         clear hK K
         show wpAnyH _ _ _ _ _ _ _ (Act.put _ (some 26) _) _
         simp only [Act.put, List.setIfInBounds_toArray, List.set_cons_zero, List.set_cons_succ]
         rotate_left
         refine step_spot 9 rfl rfl rfl ?_
         intro X g0 hN hg hB
         have F00 : Hid ((w.heap.size) ≠ g0) := Lib.hid (by have h := Q0.out.lt; omega)
         have F10 : Hid ((w.heap.size + 1) ≠ g0) := Lib.hid (by have h := Q1.out.lt; omega)
         have F20 : Hid ((w.heap.size + 1 + 1) ≠ g0) := Lib.hid (by have h := Q2.out.lt; omega)
         have D01 : Hid (g1 ≠ g0) := Lib.hid (by have h := N1.out.lt; omega)
         have D02 : Hid (g2 ≠ g0) := Lib.hid (by have h := N2.out.lt; omega)
         have L0 : Hid (w.heap.size ≤ g0) := Lib.hid (Nat.le_trans HW1.out.size hg)
         replace HW1 := Lib.hid (HW1.out.trans (hB.mono HW1.out.size))
         replace Q0 := Lib.hid (Q0.out.keep hB)
         replace Q1 := Lib.hid (Q1.out.keep hB)
         replace Q2 := Lib.hid (Q2.out.keep hB)
         replace N1 := Lib.hid (N1.out.keep hB)
         replace N2 := Lib.hid (N2.out.keep hB)
         have N0 := Lib.hid hN
         clear hB hg hN
         refine hK.out _ _ (⟨Q0.out, Q1.out, Q2.out⟩) (fun hHeld => ?_)
         clear hK K
         show wpAnyH _ _ _ _ _ _ _ (Act.put _ (some 9) _) _
         simp only [Act.put, List.setIfInBounds_toArray, List.set_cons_zero, List.set_cons_succ]
         rotate_left)
      | (have hC := C2
         clear hC
         have hN := N0
         clear hN
         fail_if_success have hN := N1
         fail_if_success have hN := N2
         refine wpAnyH_ready (rs := [5, 7, 8]) (by kernel_rfl) (by simp) ?_
         refine AllReadyH.cons rfl (fun K hK => ?_) (AllReadyH.cons rfl (fun K hK => ?_) (AllReadyH.cons rfl (fun K hK => ?_) AllReadyH.nil))
         refine step_call rfl 14 #[.tmp 27] #[23] rfl #[.agg #[.int .i64 p, .int .i64 q]] (by simp [Act.eval]) (by go_simp) (to_any _ _ _) ?_
         rintro e X ⟨rfl, hB⟩
         replace HW1 := Lib.hid (HW1.out.trans (hB.mono HW1.out.size))
         replace Q0 := Lib.hid (Q0.out.keep hB)
         replace Q1 := Lib.hid (Q1.out.keep hB)
         replace Q2 := Lib.hid (Q2.out.keep hB)
         replace N0 := Lib.hid (N0.out.keep hB)
         have C3 : True := trivial
         clear hB C2
         refine ⟨_, rfl, hK.out _ _ (⟨Q0.out, Q1.out, Q2.out⟩) (fun hHeld => ?_)⟩
         clear hK K
         show wpAnyH _ _ _ _ _ _ _ (Act.put _ (some 28) _) _
         simp only [Act.put, List.setIfInBounds_toArray, List.set_cons_zero, List.set_cons_succ]
         rotate_left
         refine step_spot 10 rfl rfl rfl ?_
         intro X g1 hN hg hB
         have F01 : Hid ((w.heap.size) ≠ g1) := Lib.hid (by have h := Q0.out.lt; omega)
         have F11 : Hid ((w.heap.size + 1) ≠ g1) := Lib.hid (by have h := Q1.out.lt; omega)
         have F21 : Hid ((w.heap.size + 1 + 1) ≠ g1) := Lib.hid (by have h := Q2.out.lt; omega)
         have D01 : Hid (g0 ≠ g1) := Lib.hid (by have h := N0.out.lt; omega)
         have L1 : Hid (w.heap.size ≤ g1) := Lib.hid (Nat.le_trans HW1.out.size hg)
         replace HW1 := Lib.hid (HW1.out.trans (hB.mono HW1.out.size))
         replace Q0 := Lib.hid (Q0.out.keep hB)
         replace Q1 := Lib.hid (Q1.out.keep hB)
         replace Q2 := Lib.hid (Q2.out.keep hB)
         replace N0 := Lib.hid (N0.out.keep hB)
         have N1 := Lib.hid hN
         clear hB hg hN
         refine hK.out _ _ (⟨Q0.out, Q1.out, Q2.out⟩) (fun hHeld => ?_)
         clear hK K
         show wpAnyH _ _ _ _ _ _ _ (Act.put _ (some 10) _) _
         simp only [Act.put, List.setIfInBounds_toArray, List.set_cons_zero, List.set_cons_succ]
         rotate_left
         refine step_spot 11 rfl rfl rfl ?_
         intro X g2 hN hg hB
         have F02 : Hid ((w.heap.size) ≠ g2) := Lib.hid (by have h := Q0.out.lt; omega)
         have F12 : Hid ((w.heap.size + 1) ≠ g2) := Lib.hid (by have h := Q1.out.lt; omega)
         have F22 : Hid ((w.heap.size + 1 + 1) ≠ g2) := Lib.hid (by have h := Q2.out.lt; omega)
         have D02 : Hid (g0 ≠ g2) := Lib.hid (by have h := N0.out.lt; omega)
         have L2 : Hid (w.heap.size ≤ g2) := Lib.hid (Nat.le_trans HW1.out.size hg)
         replace HW1 := Lib.hid (HW1.out.trans (hB.mono HW1.out.size))
         replace Q0 := Lib.hid (Q0.out.keep hB)
         replace Q1 := Lib.hid (Q1.out.keep hB)
         replace Q2 := Lib.hid (Q2.out.keep hB)
         replace N0 := Lib.hid (N0.out.keep hB)
         have N2 := Lib.hid hN
         clear hB hg hN
         refine hK.out _ _ (⟨Q0.out, Q1.out, Q2.out⟩) (fun hHeld => ?_)
         clear hK K
         show wpAnyH _ _ _ _ _ _ _ (Act.put _ (some 11) _) _
         simp only [Act.put, List.setIfInBounds_toArray, List.set_cons_zero, List.set_cons_succ]
         rotate_left)
      | (have hC := C2
         clear hC
         fail_if_success have hN := N0
         have hN := N1
         clear hN
         fail_if_success have hN := N2
         refine wpAnyH_ready (rs := [5, 6, 8]) (by kernel_rfl) (by simp) ?_
         refine AllReadyH.cons rfl (fun K hK => ?_) (AllReadyH.cons rfl (fun K hK => ?_) (AllReadyH.cons rfl (fun K hK => ?_) AllReadyH.nil))
         refine step_call rfl 14 #[.tmp 27] #[23] rfl #[.agg #[.int .i64 p, .int .i64 q]] (by simp [Act.eval]) (by go_simp) (to_any _ _ _) ?_
         rintro e X ⟨rfl, hB⟩
         replace HW1 := Lib.hid (HW1.out.trans (hB.mono HW1.out.size))
         replace Q0 := Lib.hid (Q0.out.keep hB)
         replace Q1 := Lib.hid (Q1.out.keep hB)
         replace Q2 := Lib.hid (Q2.out.keep hB)
         replace N1 := Lib.hid (N1.out.keep hB)
         have C3 : True := trivial
         clear hB C2
         refine ⟨_, rfl, hK.out _ _ (⟨Q0.out, Q1.out, Q2.out⟩) (fun hHeld => ?_)⟩
         clear hK K
         show wpAnyH _ _ _ _ _ _ _ (Act.put _ (some 28) _) _
         simp only [Act.put, List.setIfInBounds_toArray, List.set_cons_zero, List.set_cons_succ]
         rotate_left
         refine step_spot 9 rfl rfl rfl ?_
         intro X g0 hN hg hB
         have F00 : Hid ((w.heap.size) ≠ g0) := Lib.hid (by have h := Q0.out.lt; omega)
         have F10 : Hid ((w.heap.size + 1) ≠ g0) := Lib.hid (by have h := Q1.out.lt; omega)
         have F20 : Hid ((w.heap.size + 1 + 1) ≠ g0) := Lib.hid (by have h := Q2.out.lt; omega)
         have D01 : Hid (g1 ≠ g0) := Lib.hid (by have h := N1.out.lt; omega)
         have L0 : Hid (w.heap.size ≤ g0) := Lib.hid (Nat.le_trans HW1.out.size hg)
         replace HW1 := Lib.hid (HW1.out.trans (hB.mono HW1.out.size))
         replace Q0 := Lib.hid (Q0.out.keep hB)
         replace Q1 := Lib.hid (Q1.out.keep hB)
         replace Q2 := Lib.hid (Q2.out.keep hB)
         replace N1 := Lib.hid (N1.out.keep hB)
         have N0 := Lib.hid hN
         clear hB hg hN
         refine hK.out _ _ (⟨Q0.out, Q1.out, Q2.out⟩) (fun hHeld => ?_)
         clear hK K
         show wpAnyH _ _ _ _ _ _ _ (Act.put _ (some 9) _) _
         simp only [Act.put, List.setIfInBounds_toArray, List.set_cons_zero, List.set_cons_succ]
         rotate_left
         refine step_spot 11 rfl rfl rfl ?_
         intro X g2 hN hg hB
         have F02 : Hid ((w.heap.size) ≠ g2) := Lib.hid (by have h := Q0.out.lt; omega)
         have F12 : Hid ((w.heap.size + 1) ≠ g2) := Lib.hid (by have h := Q1.out.lt; omega)
         have F22 : Hid ((w.heap.size + 1 + 1) ≠ g2) := Lib.hid (by have h := Q2.out.lt; omega)
         have D12 : Hid (g1 ≠ g2) := Lib.hid (by have h := N1.out.lt; omega)
         have L2 : Hid (w.heap.size ≤ g2) := Lib.hid (Nat.le_trans HW1.out.size hg)
         replace HW1 := Lib.hid (HW1.out.trans (hB.mono HW1.out.size))
         replace Q0 := Lib.hid (Q0.out.keep hB)
         replace Q1 := Lib.hid (Q1.out.keep hB)
         replace Q2 := Lib.hid (Q2.out.keep hB)
         replace N1 := Lib.hid (N1.out.keep hB)
         have N2 := Lib.hid hN
         clear hB hg hN
         refine hK.out _ _ (⟨Q0.out, Q1.out, Q2.out⟩) (fun hHeld => ?_)
         clear hK K
         show wpAnyH _ _ _ _ _ _ _ (Act.put _ (some 11) _) _
         simp only [Act.put, List.setIfInBounds_toArray, List.set_cons_zero, List.set_cons_succ]
         rotate_left)
      | (have hC := C2
         clear hC
         fail_if_success have hN := N0
         fail_if_success have hN := N1
         have hN := N2
         clear hN
         refine wpAnyH_ready (rs := [5, 6, 7]) (by kernel_rfl) (by simp) ?_
         refine AllReadyH.cons rfl (fun K hK => ?_) (AllReadyH.cons rfl (fun K hK => ?_) (AllReadyH.cons rfl (fun K hK => ?_) AllReadyH.nil))
         refine step_call rfl 14 #[.tmp 27] #[23] rfl #[.agg #[.int .i64 p, .int .i64 q]] (by simp [Act.eval]) (by go_simp) (to_any _ _ _) ?_
         rintro e X ⟨rfl, hB⟩
         replace HW1 := Lib.hid (HW1.out.trans (hB.mono HW1.out.size))
         replace Q0 := Lib.hid (Q0.out.keep hB)
         replace Q1 := Lib.hid (Q1.out.keep hB)
         replace Q2 := Lib.hid (Q2.out.keep hB)
         replace N2 := Lib.hid (N2.out.keep hB)
         have C3 : True := trivial
         clear hB C2
         refine ⟨_, rfl, hK.out _ _ (⟨Q0.out, Q1.out, Q2.out⟩) (fun hHeld => ?_)⟩
         clear hK K
         show wpAnyH _ _ _ _ _ _ _ (Act.put _ (some 28) _) _
         simp only [Act.put, List.setIfInBounds_toArray, List.set_cons_zero, List.set_cons_succ]
         rotate_left
         refine step_spot 9 rfl rfl rfl ?_
         intro X g0 hN hg hB
         have F00 : Hid ((w.heap.size) ≠ g0) := Lib.hid (by have h := Q0.out.lt; omega)
         have F10 : Hid ((w.heap.size + 1) ≠ g0) := Lib.hid (by have h := Q1.out.lt; omega)
         have F20 : Hid ((w.heap.size + 1 + 1) ≠ g0) := Lib.hid (by have h := Q2.out.lt; omega)
         have D02 : Hid (g2 ≠ g0) := Lib.hid (by have h := N2.out.lt; omega)
         have L0 : Hid (w.heap.size ≤ g0) := Lib.hid (Nat.le_trans HW1.out.size hg)
         replace HW1 := Lib.hid (HW1.out.trans (hB.mono HW1.out.size))
         replace Q0 := Lib.hid (Q0.out.keep hB)
         replace Q1 := Lib.hid (Q1.out.keep hB)
         replace Q2 := Lib.hid (Q2.out.keep hB)
         replace N2 := Lib.hid (N2.out.keep hB)
         have N0 := Lib.hid hN
         clear hB hg hN
         refine hK.out _ _ (⟨Q0.out, Q1.out, Q2.out⟩) (fun hHeld => ?_)
         clear hK K
         show wpAnyH _ _ _ _ _ _ _ (Act.put _ (some 9) _) _
         simp only [Act.put, List.setIfInBounds_toArray, List.set_cons_zero, List.set_cons_succ]
         rotate_left
         refine step_spot 10 rfl rfl rfl ?_
         intro X g1 hN hg hB
         have F01 : Hid ((w.heap.size) ≠ g1) := Lib.hid (by have h := Q0.out.lt; omega)
         have F11 : Hid ((w.heap.size + 1) ≠ g1) := Lib.hid (by have h := Q1.out.lt; omega)
         have F21 : Hid ((w.heap.size + 1 + 1) ≠ g1) := Lib.hid (by have h := Q2.out.lt; omega)
         have D12 : Hid (g2 ≠ g1) := Lib.hid (by have h := N2.out.lt; omega)
         have L1 : Hid (w.heap.size ≤ g1) := Lib.hid (Nat.le_trans HW1.out.size hg)
         replace HW1 := Lib.hid (HW1.out.trans (hB.mono HW1.out.size))
         replace Q0 := Lib.hid (Q0.out.keep hB)
         replace Q1 := Lib.hid (Q1.out.keep hB)
         replace Q2 := Lib.hid (Q2.out.keep hB)
         replace N2 := Lib.hid (N2.out.keep hB)
         have N1 := Lib.hid hN
         clear hB hg hN
         refine hK.out _ _ (⟨Q0.out, Q1.out, Q2.out⟩) (fun hHeld => ?_)
         clear hK K
         show wpAnyH _ _ _ _ _ _ _ (Act.put _ (some 10) _) _
         simp only [Act.put, List.setIfInBounds_toArray, List.set_cons_zero, List.set_cons_succ]
         rotate_left)
      | (have hC := C3
         clear hC
         fail_if_success have hN := N0
         fail_if_success have hN := N1
         fail_if_success have hN := N2
         refine wpAnyH_ready (rs := [6, 7, 8]) (by kernel_rfl) (by simp) ?_
         refine AllReadyH.cons rfl (fun K hK => ?_) (AllReadyH.cons rfl (fun K hK => ?_) (AllReadyH.cons rfl (fun K hK => ?_) AllReadyH.nil))
         refine step_spot 9 rfl rfl rfl ?_
         intro X g0 hN hg hB
         have F00 : Hid ((w.heap.size) ≠ g0) := Lib.hid (by have h := Q0.out.lt; omega)
         have F10 : Hid ((w.heap.size + 1) ≠ g0) := Lib.hid (by have h := Q1.out.lt; omega)
         have F20 : Hid ((w.heap.size + 1 + 1) ≠ g0) := Lib.hid (by have h := Q2.out.lt; omega)
         have L0 : Hid (w.heap.size ≤ g0) := Lib.hid (Nat.le_trans HW1.out.size hg)
         replace HW1 := Lib.hid (HW1.out.trans (hB.mono HW1.out.size))
         replace Q0 := Lib.hid (Q0.out.keep hB)
         replace Q1 := Lib.hid (Q1.out.keep hB)
         replace Q2 := Lib.hid (Q2.out.keep hB)
         have N0 := Lib.hid hN
         clear hB hg hN
         refine hK.out _ _ (⟨Q0.out, Q1.out, Q2.out⟩) (fun hHeld => ?_)
         clear hK K
         show wpAnyH _ _ _ _ _ _ _ (Act.put _ (some 9) _) _
         simp only [Act.put, List.setIfInBounds_toArray, List.set_cons_zero, List.set_cons_succ]
         rotate_left
         refine step_spot 10 rfl rfl rfl ?_
         intro X g1 hN hg hB
         have F01 : Hid ((w.heap.size) ≠ g1) := Lib.hid (by have h := Q0.out.lt; omega)
         have F11 : Hid ((w.heap.size + 1) ≠ g1) := Lib.hid (by have h := Q1.out.lt; omega)
         have F21 : Hid ((w.heap.size + 1 + 1) ≠ g1) := Lib.hid (by have h := Q2.out.lt; omega)
         have L1 : Hid (w.heap.size ≤ g1) := Lib.hid (Nat.le_trans HW1.out.size hg)
         replace HW1 := Lib.hid (HW1.out.trans (hB.mono HW1.out.size))
         replace Q0 := Lib.hid (Q0.out.keep hB)
         replace Q1 := Lib.hid (Q1.out.keep hB)
         replace Q2 := Lib.hid (Q2.out.keep hB)
         have N1 := Lib.hid hN
         clear hB hg hN
         refine hK.out _ _ (⟨Q0.out, Q1.out, Q2.out⟩) (fun hHeld => ?_)
         clear hK K
         show wpAnyH _ _ _ _ _ _ _ (Act.put _ (some 10) _) _
         simp only [Act.put, List.setIfInBounds_toArray, List.set_cons_zero, List.set_cons_succ]
         rotate_left
         refine step_spot 11 rfl rfl rfl ?_
         intro X g2 hN hg hB
         have F02 : Hid ((w.heap.size) ≠ g2) := Lib.hid (by have h := Q0.out.lt; omega)
         have F12 : Hid ((w.heap.size + 1) ≠ g2) := Lib.hid (by have h := Q1.out.lt; omega)
         have F22 : Hid ((w.heap.size + 1 + 1) ≠ g2) := Lib.hid (by have h := Q2.out.lt; omega)
         have L2 : Hid (w.heap.size ≤ g2) := Lib.hid (Nat.le_trans HW1.out.size hg)
         replace HW1 := Lib.hid (HW1.out.trans (hB.mono HW1.out.size))
         replace Q0 := Lib.hid (Q0.out.keep hB)
         replace Q1 := Lib.hid (Q1.out.keep hB)
         replace Q2 := Lib.hid (Q2.out.keep hB)
         have N2 := Lib.hid hN
         clear hB hg hN
         refine hK.out _ _ (⟨Q0.out, Q1.out, Q2.out⟩) (fun hHeld => ?_)
         clear hK K
         show wpAnyH _ _ _ _ _ _ _ (Act.put _ (some 11) _) _
         simp only [Act.put, List.setIfInBounds_toArray, List.set_cons_zero, List.set_cons_succ]
         rotate_left)
      | (fail_if_success have hC := C1
         fail_if_success have hC := C2
         fail_if_success have hC := C3
         have hN := N0
         clear hN
         have hN := N1
         clear hN
         fail_if_success have hN := N2
         refine wpAnyH_ready (rs := [1, 8]) (by kernel_rfl) (by simp) ?_
         refine AllReadyH.cons rfl (fun K hK => ?_) (AllReadyH.cons rfl (fun K hK => ?_) AllReadyH.nil)
         refine step_call rfl 14 #[.tmp 23] #[23] rfl #[.agg #[.int .i64 a, .int .i64 b]] (by simp [Act.eval]) (by go_simp) (to_any _ _ _) ?_
         rintro e X ⟨rfl, hB⟩
         replace HW1 := Lib.hid (HW1.out.trans (hB.mono HW1.out.size))
         replace Q0 := Lib.hid (Q0.out.keep hB)
         replace Q1 := Lib.hid (Q1.out.keep hB)
         replace Q2 := Lib.hid (Q2.out.keep hB)
         replace N0 := Lib.hid (N0.out.keep hB)
         replace N1 := Lib.hid (N1.out.keep hB)
         have C1 : True := trivial
         clear hB
         refine ⟨_, rfl, hK.out _ _ (⟨Q0.out, Q1.out, Q2.out⟩) (fun hHeld => ?_)⟩
         clear hK K
         show wpAnyH _ _ _ _ _ _ _ (Act.put _ (some 24) _) _
         simp only [Act.put, List.setIfInBounds_toArray, List.set_cons_zero, List.set_cons_succ]
         rotate_left
         refine step_spot 11 rfl rfl rfl ?_
         intro X g2 hN hg hB
         have F02 : Hid ((w.heap.size) ≠ g2) := Lib.hid (by have h := Q0.out.lt; omega)
         have F12 : Hid ((w.heap.size + 1) ≠ g2) := Lib.hid (by have h := Q1.out.lt; omega)
         have F22 : Hid ((w.heap.size + 1 + 1) ≠ g2) := Lib.hid (by have h := Q2.out.lt; omega)
         have D02 : Hid (g0 ≠ g2) := Lib.hid (by have h := N0.out.lt; omega)
         have D12 : Hid (g1 ≠ g2) := Lib.hid (by have h := N1.out.lt; omega)
         have L2 : Hid (w.heap.size ≤ g2) := Lib.hid (Nat.le_trans HW1.out.size hg)
         replace HW1 := Lib.hid (HW1.out.trans (hB.mono HW1.out.size))
         replace Q0 := Lib.hid (Q0.out.keep hB)
         replace Q1 := Lib.hid (Q1.out.keep hB)
         replace Q2 := Lib.hid (Q2.out.keep hB)
         replace N0 := Lib.hid (N0.out.keep hB)
         replace N1 := Lib.hid (N1.out.keep hB)
         have N2 := Lib.hid hN
         clear hB hg hN
         refine hK.out _ _ (⟨Q0.out, Q1.out, Q2.out⟩) (fun hHeld => ?_)
         clear hK K
         show wpAnyH _ _ _ _ _ _ _ (Act.put _ (some 11) _) _
         simp only [Act.put, List.setIfInBounds_toArray, List.set_cons_zero, List.set_cons_succ]
         rotate_left)
      | (fail_if_success have hC := C1
         fail_if_success have hC := C2
         fail_if_success have hC := C3
         have hN := N0
         clear hN
         fail_if_success have hN := N1
         have hN := N2
         clear hN
         refine wpAnyH_ready (rs := [1, 7]) (by kernel_rfl) (by simp) ?_
         refine AllReadyH.cons rfl (fun K hK => ?_) (AllReadyH.cons rfl (fun K hK => ?_) AllReadyH.nil)
         refine step_call rfl 14 #[.tmp 23] #[23] rfl #[.agg #[.int .i64 a, .int .i64 b]] (by simp [Act.eval]) (by go_simp) (to_any _ _ _) ?_
         rintro e X ⟨rfl, hB⟩
         replace HW1 := Lib.hid (HW1.out.trans (hB.mono HW1.out.size))
         replace Q0 := Lib.hid (Q0.out.keep hB)
         replace Q1 := Lib.hid (Q1.out.keep hB)
         replace Q2 := Lib.hid (Q2.out.keep hB)
         replace N0 := Lib.hid (N0.out.keep hB)
         replace N2 := Lib.hid (N2.out.keep hB)
         have C1 : True := trivial
         clear hB
         refine ⟨_, rfl, hK.out _ _ (⟨Q0.out, Q1.out, Q2.out⟩) (fun hHeld => ?_)⟩
         clear hK K
         show wpAnyH _ _ _ _ _ _ _ (Act.put _ (some 24) _) _
         simp only [Act.put, List.setIfInBounds_toArray, List.set_cons_zero, List.set_cons_succ]
         rotate_left
         refine step_spot 10 rfl rfl rfl ?_
         intro X g1 hN hg hB
         have F01 : Hid ((w.heap.size) ≠ g1) := Lib.hid (by have h := Q0.out.lt; omega)
         have F11 : Hid ((w.heap.size + 1) ≠ g1) := Lib.hid (by have h := Q1.out.lt; omega)
         have F21 : Hid ((w.heap.size + 1 + 1) ≠ g1) := Lib.hid (by have h := Q2.out.lt; omega)
         have D01 : Hid (g0 ≠ g1) := Lib.hid (by have h := N0.out.lt; omega)
         have D12 : Hid (g2 ≠ g1) := Lib.hid (by have h := N2.out.lt; omega)
         have L1 : Hid (w.heap.size ≤ g1) := Lib.hid (Nat.le_trans HW1.out.size hg)
         replace HW1 := Lib.hid (HW1.out.trans (hB.mono HW1.out.size))
         replace Q0 := Lib.hid (Q0.out.keep hB)
         replace Q1 := Lib.hid (Q1.out.keep hB)
         replace Q2 := Lib.hid (Q2.out.keep hB)
         replace N0 := Lib.hid (N0.out.keep hB)
         replace N2 := Lib.hid (N2.out.keep hB)
         have N1 := Lib.hid hN
         clear hB hg hN
         refine hK.out _ _ (⟨Q0.out, Q1.out, Q2.out⟩) (fun hHeld => ?_)
         clear hK K
         show wpAnyH _ _ _ _ _ _ _ (Act.put _ (some 10) _) _
         simp only [Act.put, List.setIfInBounds_toArray, List.set_cons_zero, List.set_cons_succ]
         rotate_left)
      | (fail_if_success have hC := C1
         fail_if_success have hC := C2
         fail_if_success have hC := C3
         fail_if_success have hN := N0
         have hN := N1
         clear hN
         have hN := N2
         clear hN
         refine wpAnyH_ready (rs := [1, 6]) (by kernel_rfl) (by simp) ?_
         refine AllReadyH.cons rfl (fun K hK => ?_) (AllReadyH.cons rfl (fun K hK => ?_) AllReadyH.nil)
         refine step_call rfl 14 #[.tmp 23] #[23] rfl #[.agg #[.int .i64 a, .int .i64 b]] (by simp [Act.eval]) (by go_simp) (to_any _ _ _) ?_
         rintro e X ⟨rfl, hB⟩
         replace HW1 := Lib.hid (HW1.out.trans (hB.mono HW1.out.size))
         replace Q0 := Lib.hid (Q0.out.keep hB)
         replace Q1 := Lib.hid (Q1.out.keep hB)
         replace Q2 := Lib.hid (Q2.out.keep hB)
         replace N1 := Lib.hid (N1.out.keep hB)
         replace N2 := Lib.hid (N2.out.keep hB)
         have C1 : True := trivial
         clear hB
         refine ⟨_, rfl, hK.out _ _ (⟨Q0.out, Q1.out, Q2.out⟩) (fun hHeld => ?_)⟩
         clear hK K
         show wpAnyH _ _ _ _ _ _ _ (Act.put _ (some 24) _) _
         simp only [Act.put, List.setIfInBounds_toArray, List.set_cons_zero, List.set_cons_succ]
         rotate_left
         refine step_spot 9 rfl rfl rfl ?_
         intro X g0 hN hg hB
         have F00 : Hid ((w.heap.size) ≠ g0) := Lib.hid (by have h := Q0.out.lt; omega)
         have F10 : Hid ((w.heap.size + 1) ≠ g0) := Lib.hid (by have h := Q1.out.lt; omega)
         have F20 : Hid ((w.heap.size + 1 + 1) ≠ g0) := Lib.hid (by have h := Q2.out.lt; omega)
         have D01 : Hid (g1 ≠ g0) := Lib.hid (by have h := N1.out.lt; omega)
         have D02 : Hid (g2 ≠ g0) := Lib.hid (by have h := N2.out.lt; omega)
         have L0 : Hid (w.heap.size ≤ g0) := Lib.hid (Nat.le_trans HW1.out.size hg)
         replace HW1 := Lib.hid (HW1.out.trans (hB.mono HW1.out.size))
         replace Q0 := Lib.hid (Q0.out.keep hB)
         replace Q1 := Lib.hid (Q1.out.keep hB)
         replace Q2 := Lib.hid (Q2.out.keep hB)
         replace N1 := Lib.hid (N1.out.keep hB)
         replace N2 := Lib.hid (N2.out.keep hB)
         have N0 := Lib.hid hN
         clear hB hg hN
         refine hK.out _ _ (⟨Q0.out, Q1.out, Q2.out⟩) (fun hHeld => ?_)
         clear hK K
         show wpAnyH _ _ _ _ _ _ _ (Act.put _ (some 9) _) _
         simp only [Act.put, List.setIfInBounds_toArray, List.set_cons_zero, List.set_cons_succ]
         rotate_left)
      | (have hC := C1
         clear hC
         have hN := N0
         clear hN
         fail_if_success have hN := N1
         fail_if_success have hN := N2
         refine wpAnyH_ready (rs := [3, 7, 8]) (by kernel_rfl) (by simp) ?_
         refine AllReadyH.cons rfl (fun K hK => ?_) (AllReadyH.cons rfl (fun K hK => ?_) (AllReadyH.cons rfl (fun K hK => ?_) AllReadyH.nil))
         refine step_call rfl 14 #[.tmp 25] #[23] rfl #[.agg #[.int .i64 c, .int .i64 d]] (by simp [Act.eval]) (by go_simp) (to_any _ _ _) ?_
         rintro e X ⟨rfl, hB⟩
         replace HW1 := Lib.hid (HW1.out.trans (hB.mono HW1.out.size))
         replace Q0 := Lib.hid (Q0.out.keep hB)
         replace Q1 := Lib.hid (Q1.out.keep hB)
         replace Q2 := Lib.hid (Q2.out.keep hB)
         replace N0 := Lib.hid (N0.out.keep hB)
         have C2 : True := trivial
         clear hB C1
         refine ⟨_, rfl, hK.out _ _ (⟨Q0.out, Q1.out, Q2.out⟩) (fun hHeld => ?_)⟩
         clear hK K
         show wpAnyH _ _ _ _ _ _ _ (Act.put _ (some 26) _) _
         simp only [Act.put, List.setIfInBounds_toArray, List.set_cons_zero, List.set_cons_succ]
         rotate_left
         refine step_spot 10 rfl rfl rfl ?_
         intro X g1 hN hg hB
         have F01 : Hid ((w.heap.size) ≠ g1) := Lib.hid (by have h := Q0.out.lt; omega)
         have F11 : Hid ((w.heap.size + 1) ≠ g1) := Lib.hid (by have h := Q1.out.lt; omega)
         have F21 : Hid ((w.heap.size + 1 + 1) ≠ g1) := Lib.hid (by have h := Q2.out.lt; omega)
         have D01 : Hid (g0 ≠ g1) := Lib.hid (by have h := N0.out.lt; omega)
         have L1 : Hid (w.heap.size ≤ g1) := Lib.hid (Nat.le_trans HW1.out.size hg)
         replace HW1 := Lib.hid (HW1.out.trans (hB.mono HW1.out.size))
         replace Q0 := Lib.hid (Q0.out.keep hB)
         replace Q1 := Lib.hid (Q1.out.keep hB)
         replace Q2 := Lib.hid (Q2.out.keep hB)
         replace N0 := Lib.hid (N0.out.keep hB)
         have N1 := Lib.hid hN
         clear hB hg hN
         refine hK.out _ _ (⟨Q0.out, Q1.out, Q2.out⟩) (fun hHeld => ?_)
         clear hK K
         show wpAnyH _ _ _ _ _ _ _ (Act.put _ (some 10) _) _
         simp only [Act.put, List.setIfInBounds_toArray, List.set_cons_zero, List.set_cons_succ]
         rotate_left
         refine step_spot 11 rfl rfl rfl ?_
         intro X g2 hN hg hB
         have F02 : Hid ((w.heap.size) ≠ g2) := Lib.hid (by have h := Q0.out.lt; omega)
         have F12 : Hid ((w.heap.size + 1) ≠ g2) := Lib.hid (by have h := Q1.out.lt; omega)
         have F22 : Hid ((w.heap.size + 1 + 1) ≠ g2) := Lib.hid (by have h := Q2.out.lt; omega)
         have D02 : Hid (g0 ≠ g2) := Lib.hid (by have h := N0.out.lt; omega)
         have L2 : Hid (w.heap.size ≤ g2) := Lib.hid (Nat.le_trans HW1.out.size hg)
         replace HW1 := Lib.hid (HW1.out.trans (hB.mono HW1.out.size))
         replace Q0 := Lib.hid (Q0.out.keep hB)
         replace Q1 := Lib.hid (Q1.out.keep hB)
         replace Q2 := Lib.hid (Q2.out.keep hB)
         replace N0 := Lib.hid (N0.out.keep hB)
         have N2 := Lib.hid hN
         clear hB hg hN
         refine hK.out _ _ (⟨Q0.out, Q1.out, Q2.out⟩) (fun hHeld => ?_)
         clear hK K
         show wpAnyH _ _ _ _ _ _ _ (Act.put _ (some 11) _) _
         simp only [Act.put, List.setIfInBounds_toArray, List.set_cons_zero, List.set_cons_succ]
         rotate_left)
      | (have hC := C1
         clear hC
         fail_if_success have hN := N0
         have hN := N1
         clear hN
         fail_if_success have hN := N2
         refine wpAnyH_ready (rs := [3, 6, 8]) (by kernel_rfl) (by simp) ?_
         refine AllReadyH.cons rfl (fun K hK => ?_) (AllReadyH.cons rfl (fun K hK => ?_) (AllReadyH.cons rfl (fun K hK => ?_) AllReadyH.nil))
         refine step_call rfl 14 #[.tmp 25] #[23] rfl #[.agg #[.int .i64 c, .int .i64 d]] (by simp [Act.eval]) (by go_simp) (to_any _ _ _) ?_
         rintro e X ⟨rfl, hB⟩
         replace HW1 := Lib.hid (HW1.out.trans (hB.mono HW1.out.size))
         replace Q0 := Lib.hid (Q0.out.keep hB)
         replace Q1 := Lib.hid (Q1.out.keep hB)
         replace Q2 := Lib.hid (Q2.out.keep hB)
         replace N1 := Lib.hid (N1.out.keep hB)
         have C2 : True := trivial
         clear hB C1
         refine ⟨_, rfl, hK.out _ _ (⟨Q0.out, Q1.out, Q2.out⟩) (fun hHeld => ?_)⟩
         clear hK K
         show wpAnyH _ _ _ _ _ _ _ (Act.put _ (some 26) _) _
         simp only [Act.put, List.setIfInBounds_toArray, List.set_cons_zero, List.set_cons_succ]
         rotate_left
         refine step_spot 9 rfl rfl rfl ?_
         intro X g0 hN hg hB
         have F00 : Hid ((w.heap.size) ≠ g0) := Lib.hid (by have h := Q0.out.lt; omega)
         have F10 : Hid ((w.heap.size + 1) ≠ g0) := Lib.hid (by have h := Q1.out.lt; omega)
         have F20 : Hid ((w.heap.size + 1 + 1) ≠ g0) := Lib.hid (by have h := Q2.out.lt; omega)
         have D01 : Hid (g1 ≠ g0) := Lib.hid (by have h := N1.out.lt; omega)
         have L0 : Hid (w.heap.size ≤ g0) := Lib.hid (Nat.le_trans HW1.out.size hg)
         replace HW1 := Lib.hid (HW1.out.trans (hB.mono HW1.out.size))
         replace Q0 := Lib.hid (Q0.out.keep hB)
         replace Q1 := Lib.hid (Q1.out.keep hB)
         replace Q2 := Lib.hid (Q2.out.keep hB)
         replace N1 := Lib.hid (N1.out.keep hB)
         have N0 := Lib.hid hN
         clear hB hg hN
         refine hK.out _ _ (⟨Q0.out, Q1.out, Q2.out⟩) (fun hHeld => ?_)
         clear hK K
         show wpAnyH _ _ _ _ _ _ _ (Act.put _ (some 9) _) _
         simp only [Act.put, List.setIfInBounds_toArray, List.set_cons_zero, List.set_cons_succ]
         rotate_left
         refine step_spot 11 rfl rfl rfl ?_
         intro X g2 hN hg hB
         have F02 : Hid ((w.heap.size) ≠ g2) := Lib.hid (by have h := Q0.out.lt; omega)
         have F12 : Hid ((w.heap.size + 1) ≠ g2) := Lib.hid (by have h := Q1.out.lt; omega)
         have F22 : Hid ((w.heap.size + 1 + 1) ≠ g2) := Lib.hid (by have h := Q2.out.lt; omega)
         have D12 : Hid (g1 ≠ g2) := Lib.hid (by have h := N1.out.lt; omega)
         have L2 : Hid (w.heap.size ≤ g2) := Lib.hid (Nat.le_trans HW1.out.size hg)
         replace HW1 := Lib.hid (HW1.out.trans (hB.mono HW1.out.size))
         replace Q0 := Lib.hid (Q0.out.keep hB)
         replace Q1 := Lib.hid (Q1.out.keep hB)
         replace Q2 := Lib.hid (Q2.out.keep hB)
         replace N1 := Lib.hid (N1.out.keep hB)
         have N2 := Lib.hid hN
         clear hB hg hN
         refine hK.out _ _ (⟨Q0.out, Q1.out, Q2.out⟩) (fun hHeld => ?_)
         clear hK K
         show wpAnyH _ _ _ _ _ _ _ (Act.put _ (some 11) _) _
         simp only [Act.put, List.setIfInBounds_toArray, List.set_cons_zero, List.set_cons_succ]
         rotate_left)
      | (have hC := C1
         clear hC
         fail_if_success have hN := N0
         fail_if_success have hN := N1
         have hN := N2
         clear hN
         refine wpAnyH_ready (rs := [3, 6, 7]) (by kernel_rfl) (by simp) ?_
         refine AllReadyH.cons rfl (fun K hK => ?_) (AllReadyH.cons rfl (fun K hK => ?_) (AllReadyH.cons rfl (fun K hK => ?_) AllReadyH.nil))
         refine step_call rfl 14 #[.tmp 25] #[23] rfl #[.agg #[.int .i64 c, .int .i64 d]] (by simp [Act.eval]) (by go_simp) (to_any _ _ _) ?_
         rintro e X ⟨rfl, hB⟩
         replace HW1 := Lib.hid (HW1.out.trans (hB.mono HW1.out.size))
         replace Q0 := Lib.hid (Q0.out.keep hB)
         replace Q1 := Lib.hid (Q1.out.keep hB)
         replace Q2 := Lib.hid (Q2.out.keep hB)
         replace N2 := Lib.hid (N2.out.keep hB)
         have C2 : True := trivial
         clear hB C1
         refine ⟨_, rfl, hK.out _ _ (⟨Q0.out, Q1.out, Q2.out⟩) (fun hHeld => ?_)⟩
         clear hK K
         show wpAnyH _ _ _ _ _ _ _ (Act.put _ (some 26) _) _
         simp only [Act.put, List.setIfInBounds_toArray, List.set_cons_zero, List.set_cons_succ]
         rotate_left
         refine step_spot 9 rfl rfl rfl ?_
         intro X g0 hN hg hB
         have F00 : Hid ((w.heap.size) ≠ g0) := Lib.hid (by have h := Q0.out.lt; omega)
         have F10 : Hid ((w.heap.size + 1) ≠ g0) := Lib.hid (by have h := Q1.out.lt; omega)
         have F20 : Hid ((w.heap.size + 1 + 1) ≠ g0) := Lib.hid (by have h := Q2.out.lt; omega)
         have D02 : Hid (g2 ≠ g0) := Lib.hid (by have h := N2.out.lt; omega)
         have L0 : Hid (w.heap.size ≤ g0) := Lib.hid (Nat.le_trans HW1.out.size hg)
         replace HW1 := Lib.hid (HW1.out.trans (hB.mono HW1.out.size))
         replace Q0 := Lib.hid (Q0.out.keep hB)
         replace Q1 := Lib.hid (Q1.out.keep hB)
         replace Q2 := Lib.hid (Q2.out.keep hB)
         replace N2 := Lib.hid (N2.out.keep hB)
         have N0 := Lib.hid hN
         clear hB hg hN
         refine hK.out _ _ (⟨Q0.out, Q1.out, Q2.out⟩) (fun hHeld => ?_)
         clear hK K
         show wpAnyH _ _ _ _ _ _ _ (Act.put _ (some 9) _) _
         simp only [Act.put, List.setIfInBounds_toArray, List.set_cons_zero, List.set_cons_succ]
         rotate_left
         refine step_spot 10 rfl rfl rfl ?_
         intro X g1 hN hg hB
         have F01 : Hid ((w.heap.size) ≠ g1) := Lib.hid (by have h := Q0.out.lt; omega)
         have F11 : Hid ((w.heap.size + 1) ≠ g1) := Lib.hid (by have h := Q1.out.lt; omega)
         have F21 : Hid ((w.heap.size + 1 + 1) ≠ g1) := Lib.hid (by have h := Q2.out.lt; omega)
         have D12 : Hid (g2 ≠ g1) := Lib.hid (by have h := N2.out.lt; omega)
         have L1 : Hid (w.heap.size ≤ g1) := Lib.hid (Nat.le_trans HW1.out.size hg)
         replace HW1 := Lib.hid (HW1.out.trans (hB.mono HW1.out.size))
         replace Q0 := Lib.hid (Q0.out.keep hB)
         replace Q1 := Lib.hid (Q1.out.keep hB)
         replace Q2 := Lib.hid (Q2.out.keep hB)
         replace N2 := Lib.hid (N2.out.keep hB)
         have N1 := Lib.hid hN
         clear hB hg hN
         refine hK.out _ _ (⟨Q0.out, Q1.out, Q2.out⟩) (fun hHeld => ?_)
         clear hK K
         show wpAnyH _ _ _ _ _ _ _ (Act.put _ (some 10) _) _
         simp only [Act.put, List.setIfInBounds_toArray, List.set_cons_zero, List.set_cons_succ]
         rotate_left)
      | (have hC := C2
         clear hC
         fail_if_success have hN := N0
         fail_if_success have hN := N1
         fail_if_success have hN := N2
         refine wpAnyH_ready (rs := [5, 6, 7, 8]) (by kernel_rfl) (by simp) ?_
         refine AllReadyH.cons rfl (fun K hK => ?_) (AllReadyH.cons rfl (fun K hK => ?_) (AllReadyH.cons rfl (fun K hK => ?_) (AllReadyH.cons rfl (fun K hK => ?_) AllReadyH.nil)))
         refine step_call rfl 14 #[.tmp 27] #[23] rfl #[.agg #[.int .i64 p, .int .i64 q]] (by simp [Act.eval]) (by go_simp) (to_any _ _ _) ?_
         rintro e X ⟨rfl, hB⟩
         replace HW1 := Lib.hid (HW1.out.trans (hB.mono HW1.out.size))
         replace Q0 := Lib.hid (Q0.out.keep hB)
         replace Q1 := Lib.hid (Q1.out.keep hB)
         replace Q2 := Lib.hid (Q2.out.keep hB)
         have C3 : True := trivial
         clear hB C2
         refine ⟨_, rfl, hK.out _ _ (⟨Q0.out, Q1.out, Q2.out⟩) (fun hHeld => ?_)⟩
         clear hK K
         show wpAnyH _ _ _ _ _ _ _ (Act.put _ (some 28) _) _
         simp only [Act.put, List.setIfInBounds_toArray, List.set_cons_zero, List.set_cons_succ]
         rotate_left
         refine step_spot 9 rfl rfl rfl ?_
         intro X g0 hN hg hB
         have F00 : Hid ((w.heap.size) ≠ g0) := Lib.hid (by have h := Q0.out.lt; omega)
         have F10 : Hid ((w.heap.size + 1) ≠ g0) := Lib.hid (by have h := Q1.out.lt; omega)
         have F20 : Hid ((w.heap.size + 1 + 1) ≠ g0) := Lib.hid (by have h := Q2.out.lt; omega)
         have L0 : Hid (w.heap.size ≤ g0) := Lib.hid (Nat.le_trans HW1.out.size hg)
         replace HW1 := Lib.hid (HW1.out.trans (hB.mono HW1.out.size))
         replace Q0 := Lib.hid (Q0.out.keep hB)
         replace Q1 := Lib.hid (Q1.out.keep hB)
         replace Q2 := Lib.hid (Q2.out.keep hB)
         have N0 := Lib.hid hN
         clear hB hg hN
         refine hK.out _ _ (⟨Q0.out, Q1.out, Q2.out⟩) (fun hHeld => ?_)
         clear hK K
         show wpAnyH _ _ _ _ _ _ _ (Act.put _ (some 9) _) _
         simp only [Act.put, List.setIfInBounds_toArray, List.set_cons_zero, List.set_cons_succ]
         rotate_left
         refine step_spot 10 rfl rfl rfl ?_
         intro X g1 hN hg hB
         have F01 : Hid ((w.heap.size) ≠ g1) := Lib.hid (by have h := Q0.out.lt; omega)
         have F11 : Hid ((w.heap.size + 1) ≠ g1) := Lib.hid (by have h := Q1.out.lt; omega)
         have F21 : Hid ((w.heap.size + 1 + 1) ≠ g1) := Lib.hid (by have h := Q2.out.lt; omega)
         have L1 : Hid (w.heap.size ≤ g1) := Lib.hid (Nat.le_trans HW1.out.size hg)
         replace HW1 := Lib.hid (HW1.out.trans (hB.mono HW1.out.size))
         replace Q0 := Lib.hid (Q0.out.keep hB)
         replace Q1 := Lib.hid (Q1.out.keep hB)
         replace Q2 := Lib.hid (Q2.out.keep hB)
         have N1 := Lib.hid hN
         clear hB hg hN
         refine hK.out _ _ (⟨Q0.out, Q1.out, Q2.out⟩) (fun hHeld => ?_)
         clear hK K
         show wpAnyH _ _ _ _ _ _ _ (Act.put _ (some 10) _) _
         simp only [Act.put, List.setIfInBounds_toArray, List.set_cons_zero, List.set_cons_succ]
         rotate_left
         refine step_spot 11 rfl rfl rfl ?_
         intro X g2 hN hg hB
         have F02 : Hid ((w.heap.size) ≠ g2) := Lib.hid (by have h := Q0.out.lt; omega)
         have F12 : Hid ((w.heap.size + 1) ≠ g2) := Lib.hid (by have h := Q1.out.lt; omega)
         have F22 : Hid ((w.heap.size + 1 + 1) ≠ g2) := Lib.hid (by have h := Q2.out.lt; omega)
         have L2 : Hid (w.heap.size ≤ g2) := Lib.hid (Nat.le_trans HW1.out.size hg)
         replace HW1 := Lib.hid (HW1.out.trans (hB.mono HW1.out.size))
         replace Q0 := Lib.hid (Q0.out.keep hB)
         replace Q1 := Lib.hid (Q1.out.keep hB)
         replace Q2 := Lib.hid (Q2.out.keep hB)
         have N2 := Lib.hid hN
         clear hB hg hN
         refine hK.out _ _ (⟨Q0.out, Q1.out, Q2.out⟩) (fun hHeld => ?_)
         clear hK K
         show wpAnyH _ _ _ _ _ _ _ (Act.put _ (some 11) _) _
         simp only [Act.put, List.setIfInBounds_toArray, List.set_cons_zero, List.set_cons_succ]
         rotate_left)
      | (fail_if_success have hC := C1
         fail_if_success have hC := C2
         fail_if_success have hC := C3
         have hN := N0
         clear hN
         fail_if_success have hN := N1
         fail_if_success have hN := N2
         refine wpAnyH_ready (rs := [1, 7, 8]) (by kernel_rfl) (by simp) ?_
         refine AllReadyH.cons rfl (fun K hK => ?_) (AllReadyH.cons rfl (fun K hK => ?_) (AllReadyH.cons rfl (fun K hK => ?_) AllReadyH.nil))
         refine step_call rfl 14 #[.tmp 23] #[23] rfl #[.agg #[.int .i64 a, .int .i64 b]] (by simp [Act.eval]) (by go_simp) (to_any _ _ _) ?_
         rintro e X ⟨rfl, hB⟩
         replace HW1 := Lib.hid (HW1.out.trans (hB.mono HW1.out.size))
         replace Q0 := Lib.hid (Q0.out.keep hB)
         replace Q1 := Lib.hid (Q1.out.keep hB)
         replace Q2 := Lib.hid (Q2.out.keep hB)
         replace N0 := Lib.hid (N0.out.keep hB)
         have C1 : True := trivial
         clear hB
         refine ⟨_, rfl, hK.out _ _ (⟨Q0.out, Q1.out, Q2.out⟩) (fun hHeld => ?_)⟩
         clear hK K
         show wpAnyH _ _ _ _ _ _ _ (Act.put _ (some 24) _) _
         simp only [Act.put, List.setIfInBounds_toArray, List.set_cons_zero, List.set_cons_succ]
         rotate_left
         refine step_spot 10 rfl rfl rfl ?_
         intro X g1 hN hg hB
         have F01 : Hid ((w.heap.size) ≠ g1) := Lib.hid (by have h := Q0.out.lt; omega)
         have F11 : Hid ((w.heap.size + 1) ≠ g1) := Lib.hid (by have h := Q1.out.lt; omega)
         have F21 : Hid ((w.heap.size + 1 + 1) ≠ g1) := Lib.hid (by have h := Q2.out.lt; omega)
         have D01 : Hid (g0 ≠ g1) := Lib.hid (by have h := N0.out.lt; omega)
         have L1 : Hid (w.heap.size ≤ g1) := Lib.hid (Nat.le_trans HW1.out.size hg)
         replace HW1 := Lib.hid (HW1.out.trans (hB.mono HW1.out.size))
         replace Q0 := Lib.hid (Q0.out.keep hB)
         replace Q1 := Lib.hid (Q1.out.keep hB)
         replace Q2 := Lib.hid (Q2.out.keep hB)
         replace N0 := Lib.hid (N0.out.keep hB)
         have N1 := Lib.hid hN
         clear hB hg hN
         refine hK.out _ _ (⟨Q0.out, Q1.out, Q2.out⟩) (fun hHeld => ?_)
         clear hK K
         show wpAnyH _ _ _ _ _ _ _ (Act.put _ (some 10) _) _
         simp only [Act.put, List.setIfInBounds_toArray, List.set_cons_zero, List.set_cons_succ]
         rotate_left
         refine step_spot 11 rfl rfl rfl ?_
         intro X g2 hN hg hB
         have F02 : Hid ((w.heap.size) ≠ g2) := Lib.hid (by have h := Q0.out.lt; omega)
         have F12 : Hid ((w.heap.size + 1) ≠ g2) := Lib.hid (by have h := Q1.out.lt; omega)
         have F22 : Hid ((w.heap.size + 1 + 1) ≠ g2) := Lib.hid (by have h := Q2.out.lt; omega)
         have D02 : Hid (g0 ≠ g2) := Lib.hid (by have h := N0.out.lt; omega)
         have L2 : Hid (w.heap.size ≤ g2) := Lib.hid (Nat.le_trans HW1.out.size hg)
         replace HW1 := Lib.hid (HW1.out.trans (hB.mono HW1.out.size))
         replace Q0 := Lib.hid (Q0.out.keep hB)
         replace Q1 := Lib.hid (Q1.out.keep hB)
         replace Q2 := Lib.hid (Q2.out.keep hB)
         replace N0 := Lib.hid (N0.out.keep hB)
         have N2 := Lib.hid hN
         clear hB hg hN
         refine hK.out _ _ (⟨Q0.out, Q1.out, Q2.out⟩) (fun hHeld => ?_)
         clear hK K
         show wpAnyH _ _ _ _ _ _ _ (Act.put _ (some 11) _) _
         simp only [Act.put, List.setIfInBounds_toArray, List.set_cons_zero, List.set_cons_succ]
         rotate_left)
      | (fail_if_success have hC := C1
         fail_if_success have hC := C2
         fail_if_success have hC := C3
         fail_if_success have hN := N0
         have hN := N1
         clear hN
         fail_if_success have hN := N2
         refine wpAnyH_ready (rs := [1, 6, 8]) (by kernel_rfl) (by simp) ?_
         refine AllReadyH.cons rfl (fun K hK => ?_) (AllReadyH.cons rfl (fun K hK => ?_) (AllReadyH.cons rfl (fun K hK => ?_) AllReadyH.nil))
         refine step_call rfl 14 #[.tmp 23] #[23] rfl #[.agg #[.int .i64 a, .int .i64 b]] (by simp [Act.eval]) (by go_simp) (to_any _ _ _) ?_
         rintro e X ⟨rfl, hB⟩
         replace HW1 := Lib.hid (HW1.out.trans (hB.mono HW1.out.size))
         replace Q0 := Lib.hid (Q0.out.keep hB)
         replace Q1 := Lib.hid (Q1.out.keep hB)
         replace Q2 := Lib.hid (Q2.out.keep hB)
         replace N1 := Lib.hid (N1.out.keep hB)
         have C1 : True := trivial
         clear hB
         refine ⟨_, rfl, hK.out _ _ (⟨Q0.out, Q1.out, Q2.out⟩) (fun hHeld => ?_)⟩
         clear hK K
         show wpAnyH _ _ _ _ _ _ _ (Act.put _ (some 24) _) _
         simp only [Act.put, List.setIfInBounds_toArray, List.set_cons_zero, List.set_cons_succ]
         rotate_left
         refine step_spot 9 rfl rfl rfl ?_
         intro X g0 hN hg hB
         have F00 : Hid ((w.heap.size) ≠ g0) := Lib.hid (by have h := Q0.out.lt; omega)
         have F10 : Hid ((w.heap.size + 1) ≠ g0) := Lib.hid (by have h := Q1.out.lt; omega)
         have F20 : Hid ((w.heap.size + 1 + 1) ≠ g0) := Lib.hid (by have h := Q2.out.lt; omega)
         have D01 : Hid (g1 ≠ g0) := Lib.hid (by have h := N1.out.lt; omega)
         have L0 : Hid (w.heap.size ≤ g0) := Lib.hid (Nat.le_trans HW1.out.size hg)
         replace HW1 := Lib.hid (HW1.out.trans (hB.mono HW1.out.size))
         replace Q0 := Lib.hid (Q0.out.keep hB)
         replace Q1 := Lib.hid (Q1.out.keep hB)
         replace Q2 := Lib.hid (Q2.out.keep hB)
         replace N1 := Lib.hid (N1.out.keep hB)
         have N0 := Lib.hid hN
         clear hB hg hN
         refine hK.out _ _ (⟨Q0.out, Q1.out, Q2.out⟩) (fun hHeld => ?_)
         clear hK K
         show wpAnyH _ _ _ _ _ _ _ (Act.put _ (some 9) _) _
         simp only [Act.put, List.setIfInBounds_toArray, List.set_cons_zero, List.set_cons_succ]
         rotate_left
         refine step_spot 11 rfl rfl rfl ?_
         intro X g2 hN hg hB
         have F02 : Hid ((w.heap.size) ≠ g2) := Lib.hid (by have h := Q0.out.lt; omega)
         have F12 : Hid ((w.heap.size + 1) ≠ g2) := Lib.hid (by have h := Q1.out.lt; omega)
         have F22 : Hid ((w.heap.size + 1 + 1) ≠ g2) := Lib.hid (by have h := Q2.out.lt; omega)
         have D12 : Hid (g1 ≠ g2) := Lib.hid (by have h := N1.out.lt; omega)
         have L2 : Hid (w.heap.size ≤ g2) := Lib.hid (Nat.le_trans HW1.out.size hg)
         replace HW1 := Lib.hid (HW1.out.trans (hB.mono HW1.out.size))
         replace Q0 := Lib.hid (Q0.out.keep hB)
         replace Q1 := Lib.hid (Q1.out.keep hB)
         replace Q2 := Lib.hid (Q2.out.keep hB)
         replace N1 := Lib.hid (N1.out.keep hB)
         have N2 := Lib.hid hN
         clear hB hg hN
         refine hK.out _ _ (⟨Q0.out, Q1.out, Q2.out⟩) (fun hHeld => ?_)
         clear hK K
         show wpAnyH _ _ _ _ _ _ _ (Act.put _ (some 11) _) _
         simp only [Act.put, List.setIfInBounds_toArray, List.set_cons_zero, List.set_cons_succ]
         rotate_left)
      | (fail_if_success have hC := C1
         fail_if_success have hC := C2
         fail_if_success have hC := C3
         fail_if_success have hN := N0
         fail_if_success have hN := N1
         have hN := N2
         clear hN
         refine wpAnyH_ready (rs := [1, 6, 7]) (by kernel_rfl) (by simp) ?_
         refine AllReadyH.cons rfl (fun K hK => ?_) (AllReadyH.cons rfl (fun K hK => ?_) (AllReadyH.cons rfl (fun K hK => ?_) AllReadyH.nil))
         refine step_call rfl 14 #[.tmp 23] #[23] rfl #[.agg #[.int .i64 a, .int .i64 b]] (by simp [Act.eval]) (by go_simp) (to_any _ _ _) ?_
         rintro e X ⟨rfl, hB⟩
         replace HW1 := Lib.hid (HW1.out.trans (hB.mono HW1.out.size))
         replace Q0 := Lib.hid (Q0.out.keep hB)
         replace Q1 := Lib.hid (Q1.out.keep hB)
         replace Q2 := Lib.hid (Q2.out.keep hB)
         replace N2 := Lib.hid (N2.out.keep hB)
         have C1 : True := trivial
         clear hB
         refine ⟨_, rfl, hK.out _ _ (⟨Q0.out, Q1.out, Q2.out⟩) (fun hHeld => ?_)⟩
         clear hK K
         show wpAnyH _ _ _ _ _ _ _ (Act.put _ (some 24) _) _
         simp only [Act.put, List.setIfInBounds_toArray, List.set_cons_zero, List.set_cons_succ]
         rotate_left
         refine step_spot 9 rfl rfl rfl ?_
         intro X g0 hN hg hB
         have F00 : Hid ((w.heap.size) ≠ g0) := Lib.hid (by have h := Q0.out.lt; omega)
         have F10 : Hid ((w.heap.size + 1) ≠ g0) := Lib.hid (by have h := Q1.out.lt; omega)
         have F20 : Hid ((w.heap.size + 1 + 1) ≠ g0) := Lib.hid (by have h := Q2.out.lt; omega)
         have D02 : Hid (g2 ≠ g0) := Lib.hid (by have h := N2.out.lt; omega)
         have L0 : Hid (w.heap.size ≤ g0) := Lib.hid (Nat.le_trans HW1.out.size hg)
         replace HW1 := Lib.hid (HW1.out.trans (hB.mono HW1.out.size))
         replace Q0 := Lib.hid (Q0.out.keep hB)
         replace Q1 := Lib.hid (Q1.out.keep hB)
         replace Q2 := Lib.hid (Q2.out.keep hB)
         replace N2 := Lib.hid (N2.out.keep hB)
         have N0 := Lib.hid hN
         clear hB hg hN
         refine hK.out _ _ (⟨Q0.out, Q1.out, Q2.out⟩) (fun hHeld => ?_)
         clear hK K
         show wpAnyH _ _ _ _ _ _ _ (Act.put _ (some 9) _) _
         simp only [Act.put, List.setIfInBounds_toArray, List.set_cons_zero, List.set_cons_succ]
         rotate_left
         refine step_spot 10 rfl rfl rfl ?_
         intro X g1 hN hg hB
         have F01 : Hid ((w.heap.size) ≠ g1) := Lib.hid (by have h := Q0.out.lt; omega)
         have F11 : Hid ((w.heap.size + 1) ≠ g1) := Lib.hid (by have h := Q1.out.lt; omega)
         have F21 : Hid ((w.heap.size + 1 + 1) ≠ g1) := Lib.hid (by have h := Q2.out.lt; omega)
         have D12 : Hid (g2 ≠ g1) := Lib.hid (by have h := N2.out.lt; omega)
         have L1 : Hid (w.heap.size ≤ g1) := Lib.hid (Nat.le_trans HW1.out.size hg)
         replace HW1 := Lib.hid (HW1.out.trans (hB.mono HW1.out.size))
         replace Q0 := Lib.hid (Q0.out.keep hB)
         replace Q1 := Lib.hid (Q1.out.keep hB)
         replace Q2 := Lib.hid (Q2.out.keep hB)
         replace N2 := Lib.hid (N2.out.keep hB)
         have N1 := Lib.hid hN
         clear hB hg hN
         refine hK.out _ _ (⟨Q0.out, Q1.out, Q2.out⟩) (fun hHeld => ?_)
         clear hK K
         show wpAnyH _ _ _ _ _ _ _ (Act.put _ (some 10) _) _
         simp only [Act.put, List.setIfInBounds_toArray, List.set_cons_zero, List.set_cons_succ]
         rotate_left)
      | (have hC := C1
         clear hC
         fail_if_success have hN := N0
         fail_if_success have hN := N1
         fail_if_success have hN := N2
         refine wpAnyH_ready (rs := [3, 6, 7, 8]) (by kernel_rfl) (by simp) ?_
         refine AllReadyH.cons rfl (fun K hK => ?_) (AllReadyH.cons rfl (fun K hK => ?_) (AllReadyH.cons rfl (fun K hK => ?_) (AllReadyH.cons rfl (fun K hK => ?_) AllReadyH.nil)))
         refine step_call rfl 14 #[.tmp 25] #[23] rfl #[.agg #[.int .i64 c, .int .i64 d]] (by simp [Act.eval]) (by go_simp) (to_any _ _ _) ?_
         rintro e X ⟨rfl, hB⟩
         replace HW1 := Lib.hid (HW1.out.trans (hB.mono HW1.out.size))
         replace Q0 := Lib.hid (Q0.out.keep hB)
         replace Q1 := Lib.hid (Q1.out.keep hB)
         replace Q2 := Lib.hid (Q2.out.keep hB)
         have C2 : True := trivial
         clear hB C1
         refine ⟨_, rfl, hK.out _ _ (⟨Q0.out, Q1.out, Q2.out⟩) (fun hHeld => ?_)⟩
         clear hK K
         show wpAnyH _ _ _ _ _ _ _ (Act.put _ (some 26) _) _
         simp only [Act.put, List.setIfInBounds_toArray, List.set_cons_zero, List.set_cons_succ]
         rotate_left
         refine step_spot 9 rfl rfl rfl ?_
         intro X g0 hN hg hB
         have F00 : Hid ((w.heap.size) ≠ g0) := Lib.hid (by have h := Q0.out.lt; omega)
         have F10 : Hid ((w.heap.size + 1) ≠ g0) := Lib.hid (by have h := Q1.out.lt; omega)
         have F20 : Hid ((w.heap.size + 1 + 1) ≠ g0) := Lib.hid (by have h := Q2.out.lt; omega)
         have L0 : Hid (w.heap.size ≤ g0) := Lib.hid (Nat.le_trans HW1.out.size hg)
         replace HW1 := Lib.hid (HW1.out.trans (hB.mono HW1.out.size))
         replace Q0 := Lib.hid (Q0.out.keep hB)
         replace Q1 := Lib.hid (Q1.out.keep hB)
         replace Q2 := Lib.hid (Q2.out.keep hB)
         have N0 := Lib.hid hN
         clear hB hg hN
         refine hK.out _ _ (⟨Q0.out, Q1.out, Q2.out⟩) (fun hHeld => ?_)
         clear hK K
         show wpAnyH _ _ _ _ _ _ _ (Act.put _ (some 9) _) _
         simp only [Act.put, List.setIfInBounds_toArray, List.set_cons_zero, List.set_cons_succ]
         rotate_left
         refine step_spot 10 rfl rfl rfl ?_
         intro X g1 hN hg hB
         have F01 : Hid ((w.heap.size) ≠ g1) := Lib.hid (by have h := Q0.out.lt; omega)
         have F11 : Hid ((w.heap.size + 1) ≠ g1) := Lib.hid (by have h := Q1.out.lt; omega)
         have F21 : Hid ((w.heap.size + 1 + 1) ≠ g1) := Lib.hid (by have h := Q2.out.lt; omega)
         have L1 : Hid (w.heap.size ≤ g1) := Lib.hid (Nat.le_trans HW1.out.size hg)
         replace HW1 := Lib.hid (HW1.out.trans (hB.mono HW1.out.size))
         replace Q0 := Lib.hid (Q0.out.keep hB)
         replace Q1 := Lib.hid (Q1.out.keep hB)
         replace Q2 := Lib.hid (Q2.out.keep hB)
         have N1 := Lib.hid hN
         clear hB hg hN
         refine hK.out _ _ (⟨Q0.out, Q1.out, Q2.out⟩) (fun hHeld => ?_)
         clear hK K
         show wpAnyH _ _ _ _ _ _ _ (Act.put _ (some 10) _) _
         simp only [Act.put, List.setIfInBounds_toArray, List.set_cons_zero, List.set_cons_succ]
         rotate_left
         refine step_spot 11 rfl rfl rfl ?_
         intro X g2 hN hg hB
         have F02 : Hid ((w.heap.size) ≠ g2) := Lib.hid (by have h := Q0.out.lt; omega)
         have F12 : Hid ((w.heap.size + 1) ≠ g2) := Lib.hid (by have h := Q1.out.lt; omega)
         have F22 : Hid ((w.heap.size + 1 + 1) ≠ g2) := Lib.hid (by have h := Q2.out.lt; omega)
         have L2 : Hid (w.heap.size ≤ g2) := Lib.hid (Nat.le_trans HW1.out.size hg)
         replace HW1 := Lib.hid (HW1.out.trans (hB.mono HW1.out.size))
         replace Q0 := Lib.hid (Q0.out.keep hB)
         replace Q1 := Lib.hid (Q1.out.keep hB)
         replace Q2 := Lib.hid (Q2.out.keep hB)
         have N2 := Lib.hid hN
         clear hB hg hN
         refine hK.out _ _ (⟨Q0.out, Q1.out, Q2.out⟩) (fun hHeld => ?_)
         clear hK K
         show wpAnyH _ _ _ _ _ _ _ (Act.put _ (some 11) _) _
         simp only [Act.put, List.setIfInBounds_toArray, List.set_cons_zero, List.set_cons_succ]
         rotate_left)
      | (fail_if_success have hC := C1
         fail_if_success have hC := C2
         fail_if_success have hC := C3
         fail_if_success have hN := N0
         fail_if_success have hN := N1
         fail_if_success have hN := N2
         refine wpAnyH_ready (rs := [1, 6, 7, 8]) (by kernel_rfl) (by simp) ?_
         refine AllReadyH.cons rfl (fun K hK => ?_) (AllReadyH.cons rfl (fun K hK => ?_) (AllReadyH.cons rfl (fun K hK => ?_) (AllReadyH.cons rfl (fun K hK => ?_) AllReadyH.nil)))
         refine step_call rfl 14 #[.tmp 23] #[23] rfl #[.agg #[.int .i64 a, .int .i64 b]] (by simp [Act.eval]) (by go_simp) (to_any _ _ _) ?_
         rintro e X ⟨rfl, hB⟩
         replace HW1 := Lib.hid (HW1.out.trans (hB.mono HW1.out.size))
         replace Q0 := Lib.hid (Q0.out.keep hB)
         replace Q1 := Lib.hid (Q1.out.keep hB)
         replace Q2 := Lib.hid (Q2.out.keep hB)
         have C1 : True := trivial
         clear hB
         refine ⟨_, rfl, hK.out _ _ (⟨Q0.out, Q1.out, Q2.out⟩) (fun hHeld => ?_)⟩
         clear hK K
         show wpAnyH _ _ _ _ _ _ _ (Act.put _ (some 24) _) _
         simp only [Act.put, List.setIfInBounds_toArray, List.set_cons_zero, List.set_cons_succ]
         rotate_left
         refine step_spot 9 rfl rfl rfl ?_
         intro X g0 hN hg hB
         have F00 : Hid ((w.heap.size) ≠ g0) := Lib.hid (by have h := Q0.out.lt; omega)
         have F10 : Hid ((w.heap.size + 1) ≠ g0) := Lib.hid (by have h := Q1.out.lt; omega)
         have F20 : Hid ((w.heap.size + 1 + 1) ≠ g0) := Lib.hid (by have h := Q2.out.lt; omega)
         have L0 : Hid (w.heap.size ≤ g0) := Lib.hid (Nat.le_trans HW1.out.size hg)
         replace HW1 := Lib.hid (HW1.out.trans (hB.mono HW1.out.size))
         replace Q0 := Lib.hid (Q0.out.keep hB)
         replace Q1 := Lib.hid (Q1.out.keep hB)
         replace Q2 := Lib.hid (Q2.out.keep hB)
         have N0 := Lib.hid hN
         clear hB hg hN
         refine hK.out _ _ (⟨Q0.out, Q1.out, Q2.out⟩) (fun hHeld => ?_)
         clear hK K
         show wpAnyH _ _ _ _ _ _ _ (Act.put _ (some 9) _) _
         simp only [Act.put, List.setIfInBounds_toArray, List.set_cons_zero, List.set_cons_succ]
         rotate_left
         refine step_spot 10 rfl rfl rfl ?_
         intro X g1 hN hg hB
         have F01 : Hid ((w.heap.size) ≠ g1) := Lib.hid (by have h := Q0.out.lt; omega)
         have F11 : Hid ((w.heap.size + 1) ≠ g1) := Lib.hid (by have h := Q1.out.lt; omega)
         have F21 : Hid ((w.heap.size + 1 + 1) ≠ g1) := Lib.hid (by have h := Q2.out.lt; omega)
         have L1 : Hid (w.heap.size ≤ g1) := Lib.hid (Nat.le_trans HW1.out.size hg)
         replace HW1 := Lib.hid (HW1.out.trans (hB.mono HW1.out.size))
         replace Q0 := Lib.hid (Q0.out.keep hB)
         replace Q1 := Lib.hid (Q1.out.keep hB)
         replace Q2 := Lib.hid (Q2.out.keep hB)
         have N1 := Lib.hid hN
         clear hB hg hN
         refine hK.out _ _ (⟨Q0.out, Q1.out, Q2.out⟩) (fun hHeld => ?_)
         clear hK K
         show wpAnyH _ _ _ _ _ _ _ (Act.put _ (some 10) _) _
         simp only [Act.put, List.setIfInBounds_toArray, List.set_cons_zero, List.set_cons_succ]
         rotate_left
         refine step_spot 11 rfl rfl rfl ?_
         intro X g2 hN hg hB
         have F02 : Hid ((w.heap.size) ≠ g2) := Lib.hid (by have h := Q0.out.lt; omega)
         have F12 : Hid ((w.heap.size + 1) ≠ g2) := Lib.hid (by have h := Q1.out.lt; omega)
         have F22 : Hid ((w.heap.size + 1 + 1) ≠ g2) := Lib.hid (by have h := Q2.out.lt; omega)
         have L2 : Hid (w.heap.size ≤ g2) := Lib.hid (Nat.le_trans HW1.out.size hg)
         replace HW1 := Lib.hid (HW1.out.trans (hB.mono HW1.out.size))
         replace Q0 := Lib.hid (Q0.out.keep hB)
         replace Q1 := Lib.hid (Q1.out.keep hB)
         replace Q2 := Lib.hid (Q2.out.keep hB)
         have N2 := Lib.hid hN
         clear hB hg hN
         refine hK.out _ _ (⟨Q0.out, Q1.out, Q2.out⟩) (fun hHeld => ?_)
         clear hK K
         show wpAnyH _ _ _ _ _ _ _ (Act.put _ (some 11) _) _
         simp only [Act.put, List.setIfInBounds_toArray, List.set_cons_zero, List.set_cons_succ]
         rotate_left))
  case rest =>
    obtain ⟨g0, g1, g2, rfl, rfl, rfl, N0, N1, N2, HW1⟩ := hcut
    obtain ⟨F, hF⟩ : ∃ F, farP a b c d = F := ⟨_, rfl⟩
    have HF0 := Lib.hid hF
    obtain ⟨r1, h1⟩ : ∃ r, turnP a b p q n = r := ⟨_, rfl⟩
    obtain ⟨r2, h2⟩ : ∃ r, turnP c d p q n = r := ⟨_, rfl⟩
    obtain ⟨r, hr⟩ : ∃ r, n.tmod 4 = r := ⟨_, rfl⟩
    have hr3 := tmod4_bound n
    have hmm := tmod4_back n
    rw [hr] at hr3 hmm
    obtain ⟨hr1, hr2⟩ := hr3
    obtain ⟨m, hm⟩ : ∃ m, (4 - r).tmod 4 = m := ⟨_, rfl⟩
    rw [hm] at hmm
    have HK : Hid (r1.e = 0 → On a b ∧ turnP r1.x r1.y p q m = ⟨a, b, 0⟩) := Lib.hid (by rw [← h1]; exact fun h => ⟨(turn_ok h).1, turn_back h hmm⟩)
    have HK2 : Hid (r2.e = 0 → On c d) := Lib.hid (by rw [← h2]; exact fun h => (turn_ok h).1)
    have HK3 : Hid (r1.e = 0 → r2.e = 0 → farP r1.x r1.y r2.x r2.y = F) := Lib.hid (by rw [← h1, ← h2, ← hF]; exact fun h h2 => turn_far h h2)
    have HF : Hid (∀ w, Calls Try.prog 25 #[.agg #[.int .i64 a, .int .i64 b], .agg #[.int .i64 c, .int .i64 d]] w fun e w' => e = .returned (.int .i64 F) ∧ Below w.heap.size w w') := Lib.hid fun w => by
      have h := far_any a b c d w
      rw [hF] at h
      exact h
    have HT1 : Hid (∀ w, Calls Try.prog 19 #[.agg #[.int .i64 a, .int .i64 b], .agg #[.int .i64 p, .int .i64 q], .int .i64 n] w fun e w' => e = .returned (.tuple #[.agg #[.int .i64 r1.x, .int .i64 r1.y], .int .i64 r1.e]) ∧ Below w.heap.size w w') := Lib.hid fun w => by
      have h := turn_any a b p q n w
      rw [h1] at h
      exact h
    have HT2 : Hid (∀ w, Calls Try.prog 19 #[.agg #[.int .i64 c, .int .i64 d], .agg #[.int .i64 p, .int .i64 q], .int .i64 n] w fun e w' => e = .returned (.tuple #[.agg #[.int .i64 r2.x, .int .i64 r2.y], .int .i64 r2.e]) ∧ Below w.heap.size w w') := Lib.hid fun w => by
      have h := turn_any c d p q n w
      rw [h2] at h
      exact h
    clear h1 h2 hF hmm
    have N0a := N0.out.c0
    have N0b := N0.out.c1
    have N1a := N1.out.c0
    have N1b := N1.out.c1
    go_wp2_with fail
    refine (HF.out _).mono ?_
    rintro e Y1 ⟨rfl, hB⟩
    clear N0a N0b
    clear N1a N1b
    replace HW1 := Lib.hid (HW1.out.trans (hB.mono HW1.out.size))
    replace N0 := Lib.hid (N0.out.keep hB)
    replace N1 := Lib.hid (N1.out.keep hB)
    replace N2 := Lib.hid (N2.out.keep hB)
    clear hB
    have N0a := N0.out.c0
    have N0b := N0.out.c1
    have N2a := N2.out.c0
    have N2b := N2.out.c1
    go_wp2_with fail
    refine (HT1.out _).mono ?_
    rintro e Y2 ⟨rfl, hB⟩
    clear N0a N0b
    clear N2a N2b
    replace HW1 := Lib.hid (HW1.out.trans (hB.mono HW1.out.size))
    replace N0 := Lib.hid (N0.out.keep hB)
    replace N1 := Lib.hid (N1.out.keep hB)
    replace N2 := Lib.hid (N2.out.keep hB)
    clear hB
    go_upto_region 4 with fail
    have A1 : Hid (Pt (Y2.alloc (.cells #[.int .i64 r1.x, .int .i64 r1.y] 24)) Y2.heap.size 24 r1.x r1.y) := Lib.hid (Pt.mk_ rfl)
    replace N0 := Lib.hid (N0.out.alloc (.cells #[.int .i64 r1.x, .int .i64 r1.y] 24))
    replace N1 := Lib.hid (N1.out.alloc (.cells #[.int .i64 r1.x, .int .i64 r1.y] 24))
    replace N2 := Lib.hid (N2.out.alloc (.cells #[.int .i64 r1.x, .int .i64 r1.y] 24))
    replace HW1 := Lib.hid (HW1.out.alloc HW1.out.size (.cells #[.int .i64 r1.x, .int .i64 r1.y] 24))
    generalize (Y2.alloc (.cells #[.int .i64 r1.x, .int .i64 r1.y] 24)) = Y3 at HW1 A1 N0 N1 N2 ⊢
    generalize Y2.heap.size = gA1 at A1 ⊢
    have N1a := N1.out.c0
    have N1b := N1.out.c1
    have N2a := N2.out.c0
    have N2b := N2.out.c1
    go_wp2_with fail
    refine (HT2.out _).mono ?_
    rintro e Y4 ⟨rfl, hB⟩
    clear N1a N1b
    clear N2a N2b
    replace HW1 := Lib.hid (HW1.out.trans (hB.mono HW1.out.size))
    replace N0 := Lib.hid (N0.out.keep hB)
    replace N1 := Lib.hid (N1.out.keep hB)
    replace N2 := Lib.hid (N2.out.keep hB)
    replace A1 := Lib.hid (A1.out.keep hB)
    clear hB
    go_upto_region 5 with fail
    have A2 : Hid (Pt (Y4.alloc (.cells #[.int .i64 r2.x, .int .i64 r2.y] 24)) Y4.heap.size 24 r2.x r2.y) := Lib.hid (Pt.mk_ rfl)
    replace N0 := Lib.hid (N0.out.alloc (.cells #[.int .i64 r2.x, .int .i64 r2.y] 24))
    replace N1 := Lib.hid (N1.out.alloc (.cells #[.int .i64 r2.x, .int .i64 r2.y] 24))
    replace N2 := Lib.hid (N2.out.alloc (.cells #[.int .i64 r2.x, .int .i64 r2.y] 24))
    replace A1 := Lib.hid (A1.out.alloc (.cells #[.int .i64 r2.x, .int .i64 r2.y] 24))
    replace HW1 := Lib.hid (HW1.out.alloc HW1.out.size (.cells #[.int .i64 r2.x, .int .i64 r2.y] 24))
    generalize (Y4.alloc (.cells #[.int .i64 r2.x, .int .i64 r2.y] 24)) = Y5 at HW1 A2 N0 N1 N2 A1 ⊢
    generalize Y4.heap.size = gA2 at A2 ⊢
    by_cases e1 : r1.e = 0
    · obtain ⟨hA, hbk⟩ := HK.out e1
      have b1 : (r1.e == 0) = true := by simpa using e1
      have HT3 : Hid (∀ w, Calls Try.prog 19 #[.agg #[.int .i64 r1.x, .int .i64 r1.y], .agg #[.int .i64 p, .int .i64 q], .int .i64 m] w fun e w' => e = .returned (.tuple #[.agg #[.int .i64 a, .int .i64 b], .int .i64 0]) ∧ Below w.heap.size w w') := Lib.hid fun w => by
        have h := turn_any r1.x r1.y p q m w
        rw [hbk] at h
        exact h
      clear hbk
      by_cases e2 : r2.e = 0
      · have hC := HK2.out e2
        have hfar := HK3.out e1 e2
        have b2 : (r2.e == 0) = true := by simpa using e2
        have HF2 : Hid (∀ w, Calls Try.prog 25 #[.agg #[.int .i64 r1.x, .int .i64 r1.y], .agg #[.int .i64 r2.x, .int .i64 r2.y]] w fun e w' => e = .returned (.int .i64 F) ∧ Below w.heap.size w w') := Lib.hid fun w => by
          have h := far_any r1.x r1.y r2.x r2.y w
          rw [hfar] at h
          exact h
        clear hfar e1 e2
        have A1a := A1.out.c0
        have A1b := A1.out.c1
        have A2a := A2.out.c0
        have A2b := A2.out.c1
        go_wp2_with fail
        refine (HF2.out _).mono ?_
        rintro e Y6 ⟨rfl, hB⟩
        clear A1a A1b
        clear A2a A2b
        replace HW1 := Lib.hid (HW1.out.trans (hB.mono HW1.out.size))
        replace N0 := Lib.hid (N0.out.keep hB)
        replace N1 := Lib.hid (N1.out.keep hB)
        replace N2 := Lib.hid (N2.out.keep hB)
        replace A1 := Lib.hid (A1.out.keep hB)
        replace A2 := Lib.hid (A2.out.keep hB)
        clear hB
        go_upto_region 7 with fail
        have A1a := A1.out.c0
        have A1b := A1.out.c1
        have N2a := N2.out.c0
        have N2b := N2.out.c1
        go_wp2_with fail
        refine (HT3.out _).mono ?_
        rintro e Y7 ⟨rfl, hB⟩
        clear A1a A1b
        clear N2a N2b
        replace HW1 := Lib.hid (HW1.out.trans (hB.mono HW1.out.size))
        replace N0 := Lib.hid (N0.out.keep hB)
        replace N1 := Lib.hid (N1.out.keep hB)
        replace N2 := Lib.hid (N2.out.keep hB)
        replace A1 := Lib.hid (A1.out.keep hB)
        replace A2 := Lib.hid (A2.out.keep hB)
        clear hB
        go_upto_region 8 with fail
        have A3 : Hid (Pt (Y7.alloc (.cells #[.int .i64 a, .int .i64 b] 24)) Y7.heap.size 24 a b) := Lib.hid (Pt.mk_ rfl)
        replace N0 := Lib.hid (N0.out.alloc (.cells #[.int .i64 a, .int .i64 b] 24))
        replace N1 := Lib.hid (N1.out.alloc (.cells #[.int .i64 a, .int .i64 b] 24))
        replace N2 := Lib.hid (N2.out.alloc (.cells #[.int .i64 a, .int .i64 b] 24))
        replace A1 := Lib.hid (A1.out.alloc (.cells #[.int .i64 a, .int .i64 b] 24))
        replace A2 := Lib.hid (A2.out.alloc (.cells #[.int .i64 a, .int .i64 b] 24))
        replace HW1 := Lib.hid (HW1.out.alloc HW1.out.size (.cells #[.int .i64 a, .int .i64 b] 24))
        generalize (Y7.alloc (.cells #[.int .i64 a, .int .i64 b] 24)) = Y8 at HW1 A3 N0 N1 N2 A1 A2 ⊢
        generalize Y7.heap.size = gA3 at A3 ⊢
        have A3a := A3.out.c0
        have A3b := A3.out.c1
        have N0a := N0.out.c0
        have N0b := N0.out.c1
        go_upto_region 10 with fail
        clear A3a A3b
        clear N0a N0b
        have HM : Hid (∀ w, Calls Try.prog 21 #[.agg #[.int .i64 a, .int .i64 b]] w fun e w' => e = .returned (.tuple #[.agg #[.int .i64 a, .int .i64 (-b)], .int .i64 0]) ∧ Below w.heap.size w w') := Lib.hid fun w => by
          have h := mirror_any a b w
          rw [(mirror_on hA).1] at h
          exact h
        have HN : Hid (∀ w, Calls Try.prog 21 #[.agg #[.int .i64 c, .int .i64 d]] w fun e w' => e = .returned (.tuple #[.agg #[.int .i64 c, .int .i64 (-d)], .int .i64 0]) ∧ Below w.heap.size w w') := Lib.hid fun w => by
          have h := mirror_any c d w
          rw [(mirror_on hC).1] at h
          exact h
        have HG : Hid (∀ w, Calls Try.prog 25 #[.agg #[.int .i64 a, .int .i64 (-b)], .agg #[.int .i64 c, .int .i64 (-d)]] w fun e w' => e = .returned (.int .i64 F) ∧ Below w.heap.size w w') := Lib.hid fun w => by
          have h := far_any a (-b) c (-d) w
          rw [mirror_far hA hC, HF0.out] at h
          exact h
        clear hA hC
        have N0a := N0.out.c0
        have N0b := N0.out.c1
        go_wp2_with fail
        refine (HM.out _).mono ?_
        rintro e Y9 ⟨rfl, hB⟩
        clear N0a N0b
        replace HW1 := Lib.hid (HW1.out.trans (hB.mono HW1.out.size))
        replace N0 := Lib.hid (N0.out.keep hB)
        replace N1 := Lib.hid (N1.out.keep hB)
        replace N2 := Lib.hid (N2.out.keep hB)
        replace A1 := Lib.hid (A1.out.keep hB)
        replace A2 := Lib.hid (A2.out.keep hB)
        replace A3 := Lib.hid (A3.out.keep hB)
        clear hB
        go_upto_region 11 with fail
        have A5 : Hid (Pt (Y9.alloc (.cells #[.int .i64 a, .int .i64 (-b)] 24)) Y9.heap.size 24 a (-b)) := Lib.hid (Pt.mk_ rfl)
        replace N0 := Lib.hid (N0.out.alloc (.cells #[.int .i64 a, .int .i64 (-b)] 24))
        replace N1 := Lib.hid (N1.out.alloc (.cells #[.int .i64 a, .int .i64 (-b)] 24))
        replace N2 := Lib.hid (N2.out.alloc (.cells #[.int .i64 a, .int .i64 (-b)] 24))
        replace A1 := Lib.hid (A1.out.alloc (.cells #[.int .i64 a, .int .i64 (-b)] 24))
        replace A2 := Lib.hid (A2.out.alloc (.cells #[.int .i64 a, .int .i64 (-b)] 24))
        replace A3 := Lib.hid (A3.out.alloc (.cells #[.int .i64 a, .int .i64 (-b)] 24))
        replace HW1 := Lib.hid (HW1.out.alloc HW1.out.size (.cells #[.int .i64 a, .int .i64 (-b)] 24))
        generalize (Y9.alloc (.cells #[.int .i64 a, .int .i64 (-b)] 24)) = Y10 at HW1 A5 N0 N1 N2 A1 A2 A3 ⊢
        generalize Y9.heap.size = gA5 at A5 ⊢
        have N1a := N1.out.c0
        have N1b := N1.out.c1
        go_wp2_with fail
        refine (HN.out _).mono ?_
        rintro e Y11 ⟨rfl, hB⟩
        clear N1a N1b
        replace HW1 := Lib.hid (HW1.out.trans (hB.mono HW1.out.size))
        replace N0 := Lib.hid (N0.out.keep hB)
        replace N1 := Lib.hid (N1.out.keep hB)
        replace N2 := Lib.hid (N2.out.keep hB)
        replace A1 := Lib.hid (A1.out.keep hB)
        replace A2 := Lib.hid (A2.out.keep hB)
        replace A3 := Lib.hid (A3.out.keep hB)
        replace A5 := Lib.hid (A5.out.keep hB)
        clear hB
        go_upto_region 12 with fail
        have A6 : Hid (Pt (Y11.alloc (.cells #[.int .i64 c, .int .i64 (-d)] 24)) Y11.heap.size 24 c (-d)) := Lib.hid (Pt.mk_ rfl)
        replace N0 := Lib.hid (N0.out.alloc (.cells #[.int .i64 c, .int .i64 (-d)] 24))
        replace N1 := Lib.hid (N1.out.alloc (.cells #[.int .i64 c, .int .i64 (-d)] 24))
        replace N2 := Lib.hid (N2.out.alloc (.cells #[.int .i64 c, .int .i64 (-d)] 24))
        replace A1 := Lib.hid (A1.out.alloc (.cells #[.int .i64 c, .int .i64 (-d)] 24))
        replace A2 := Lib.hid (A2.out.alloc (.cells #[.int .i64 c, .int .i64 (-d)] 24))
        replace A3 := Lib.hid (A3.out.alloc (.cells #[.int .i64 c, .int .i64 (-d)] 24))
        replace A5 := Lib.hid (A5.out.alloc (.cells #[.int .i64 c, .int .i64 (-d)] 24))
        replace HW1 := Lib.hid (HW1.out.alloc HW1.out.size (.cells #[.int .i64 c, .int .i64 (-d)] 24))
        generalize (Y11.alloc (.cells #[.int .i64 c, .int .i64 (-d)] 24)) = Y12 at HW1 A6 N0 N1 N2 A1 A2 A3 A5 ⊢
        generalize Y11.heap.size = gA6 at A6 ⊢
        go_wp2_with fail
        refine (awake_any _).mono ?_
        rintro e Y13 ⟨rfl, hB⟩
        replace HW1 := Lib.hid (HW1.out.trans (hB.mono HW1.out.size))
        replace N0 := Lib.hid (N0.out.keep hB)
        replace N1 := Lib.hid (N1.out.keep hB)
        replace N2 := Lib.hid (N2.out.keep hB)
        replace A1 := Lib.hid (A1.out.keep hB)
        replace A2 := Lib.hid (A2.out.keep hB)
        replace A3 := Lib.hid (A3.out.keep hB)
        replace A5 := Lib.hid (A5.out.keep hB)
        replace A6 := Lib.hid (A6.out.keep hB)
        clear hB
        have A5a := A5.out.c0
        have A5b := A5.out.c1
        have A6a := A6.out.c0
        have A6b := A6.out.c1
        go_wp2_with fail
        refine (HG.out _).mono ?_
        rintro e Y14 ⟨rfl, hB⟩
        clear A5a A5b
        clear A6a A6b
        replace HW1 := Lib.hid (HW1.out.trans (hB.mono HW1.out.size))
        replace N0 := Lib.hid (N0.out.keep hB)
        replace N1 := Lib.hid (N1.out.keep hB)
        replace N2 := Lib.hid (N2.out.keep hB)
        replace A1 := Lib.hid (A1.out.keep hB)
        replace A2 := Lib.hid (A2.out.keep hB)
        replace A3 := Lib.hid (A3.out.keep hB)
        replace A5 := Lib.hid (A5.out.keep hB)
        replace A6 := Lib.hid (A6.out.keep hB)
        clear hB
        go_wp2
        go_ret
        exact ⟨rfl, HW1.out⟩
      · have b2 : (r2.e == 0) = false := by simpa using e2
        clear e1 e2
        go_upto_region 7 with fail
        have A1a := A1.out.c0
        have A1b := A1.out.c1
        have N2a := N2.out.c0
        have N2b := N2.out.c1
        go_wp2_with fail
        refine (HT3.out _).mono ?_
        rintro e Y6 ⟨rfl, hB⟩
        clear A1a A1b
        clear N2a N2b
        replace HW1 := Lib.hid (HW1.out.trans (hB.mono HW1.out.size))
        replace N0 := Lib.hid (N0.out.keep hB)
        replace N1 := Lib.hid (N1.out.keep hB)
        replace N2 := Lib.hid (N2.out.keep hB)
        replace A1 := Lib.hid (A1.out.keep hB)
        replace A2 := Lib.hid (A2.out.keep hB)
        clear hB
        go_upto_region 8 with fail
        have A3 : Hid (Pt (Y6.alloc (.cells #[.int .i64 a, .int .i64 b] 24)) Y6.heap.size 24 a b) := Lib.hid (Pt.mk_ rfl)
        replace N0 := Lib.hid (N0.out.alloc (.cells #[.int .i64 a, .int .i64 b] 24))
        replace N1 := Lib.hid (N1.out.alloc (.cells #[.int .i64 a, .int .i64 b] 24))
        replace N2 := Lib.hid (N2.out.alloc (.cells #[.int .i64 a, .int .i64 b] 24))
        replace A1 := Lib.hid (A1.out.alloc (.cells #[.int .i64 a, .int .i64 b] 24))
        replace A2 := Lib.hid (A2.out.alloc (.cells #[.int .i64 a, .int .i64 b] 24))
        replace HW1 := Lib.hid (HW1.out.alloc HW1.out.size (.cells #[.int .i64 a, .int .i64 b] 24))
        generalize (Y6.alloc (.cells #[.int .i64 a, .int .i64 b] 24)) = Y7 at HW1 A3 N0 N1 N2 A1 A2 ⊢
        generalize Y6.heap.size = gA3 at A3 ⊢
        have A3a := A3.out.c0
        have A3b := A3.out.c1
        have N0a := N0.out.c0
        have N0b := N0.out.c1
        go_upto_region 10 with fail
        clear A3a A3b
        clear N0a N0b
        by_cases hC : On c d
        · have HM : Hid (∀ w, Calls Try.prog 21 #[.agg #[.int .i64 a, .int .i64 b]] w fun e w' => e = .returned (.tuple #[.agg #[.int .i64 a, .int .i64 (-b)], .int .i64 0]) ∧ Below w.heap.size w w') := Lib.hid fun w => by
            have h := mirror_any a b w
            rw [(mirror_on hA).1] at h
            exact h
          have HN : Hid (∀ w, Calls Try.prog 21 #[.agg #[.int .i64 c, .int .i64 d]] w fun e w' => e = .returned (.tuple #[.agg #[.int .i64 c, .int .i64 (-d)], .int .i64 0]) ∧ Below w.heap.size w w') := Lib.hid fun w => by
            have h := mirror_any c d w
            rw [(mirror_on hC).1] at h
            exact h
          have HG : Hid (∀ w, Calls Try.prog 25 #[.agg #[.int .i64 a, .int .i64 (-b)], .agg #[.int .i64 c, .int .i64 (-d)]] w fun e w' => e = .returned (.int .i64 F) ∧ Below w.heap.size w w') := Lib.hid fun w => by
            have h := far_any a (-b) c (-d) w
            rw [mirror_far hA hC, HF0.out] at h
            exact h
          clear hA hC
          have N0a := N0.out.c0
          have N0b := N0.out.c1
          go_wp2_with fail
          refine (HM.out _).mono ?_
          rintro e Y8 ⟨rfl, hB⟩
          clear N0a N0b
          replace HW1 := Lib.hid (HW1.out.trans (hB.mono HW1.out.size))
          replace N0 := Lib.hid (N0.out.keep hB)
          replace N1 := Lib.hid (N1.out.keep hB)
          replace N2 := Lib.hid (N2.out.keep hB)
          replace A1 := Lib.hid (A1.out.keep hB)
          replace A2 := Lib.hid (A2.out.keep hB)
          replace A3 := Lib.hid (A3.out.keep hB)
          clear hB
          go_upto_region 11 with fail
          have A5 : Hid (Pt (Y8.alloc (.cells #[.int .i64 a, .int .i64 (-b)] 24)) Y8.heap.size 24 a (-b)) := Lib.hid (Pt.mk_ rfl)
          replace N0 := Lib.hid (N0.out.alloc (.cells #[.int .i64 a, .int .i64 (-b)] 24))
          replace N1 := Lib.hid (N1.out.alloc (.cells #[.int .i64 a, .int .i64 (-b)] 24))
          replace N2 := Lib.hid (N2.out.alloc (.cells #[.int .i64 a, .int .i64 (-b)] 24))
          replace A1 := Lib.hid (A1.out.alloc (.cells #[.int .i64 a, .int .i64 (-b)] 24))
          replace A2 := Lib.hid (A2.out.alloc (.cells #[.int .i64 a, .int .i64 (-b)] 24))
          replace A3 := Lib.hid (A3.out.alloc (.cells #[.int .i64 a, .int .i64 (-b)] 24))
          replace HW1 := Lib.hid (HW1.out.alloc HW1.out.size (.cells #[.int .i64 a, .int .i64 (-b)] 24))
          generalize (Y8.alloc (.cells #[.int .i64 a, .int .i64 (-b)] 24)) = Y9 at HW1 A5 N0 N1 N2 A1 A2 A3 ⊢
          generalize Y8.heap.size = gA5 at A5 ⊢
          have N1a := N1.out.c0
          have N1b := N1.out.c1
          go_wp2_with fail
          refine (HN.out _).mono ?_
          rintro e Y10 ⟨rfl, hB⟩
          clear N1a N1b
          replace HW1 := Lib.hid (HW1.out.trans (hB.mono HW1.out.size))
          replace N0 := Lib.hid (N0.out.keep hB)
          replace N1 := Lib.hid (N1.out.keep hB)
          replace N2 := Lib.hid (N2.out.keep hB)
          replace A1 := Lib.hid (A1.out.keep hB)
          replace A2 := Lib.hid (A2.out.keep hB)
          replace A3 := Lib.hid (A3.out.keep hB)
          replace A5 := Lib.hid (A5.out.keep hB)
          clear hB
          go_upto_region 12 with fail
          have A6 : Hid (Pt (Y10.alloc (.cells #[.int .i64 c, .int .i64 (-d)] 24)) Y10.heap.size 24 c (-d)) := Lib.hid (Pt.mk_ rfl)
          replace N0 := Lib.hid (N0.out.alloc (.cells #[.int .i64 c, .int .i64 (-d)] 24))
          replace N1 := Lib.hid (N1.out.alloc (.cells #[.int .i64 c, .int .i64 (-d)] 24))
          replace N2 := Lib.hid (N2.out.alloc (.cells #[.int .i64 c, .int .i64 (-d)] 24))
          replace A1 := Lib.hid (A1.out.alloc (.cells #[.int .i64 c, .int .i64 (-d)] 24))
          replace A2 := Lib.hid (A2.out.alloc (.cells #[.int .i64 c, .int .i64 (-d)] 24))
          replace A3 := Lib.hid (A3.out.alloc (.cells #[.int .i64 c, .int .i64 (-d)] 24))
          replace A5 := Lib.hid (A5.out.alloc (.cells #[.int .i64 c, .int .i64 (-d)] 24))
          replace HW1 := Lib.hid (HW1.out.alloc HW1.out.size (.cells #[.int .i64 c, .int .i64 (-d)] 24))
          generalize (Y10.alloc (.cells #[.int .i64 c, .int .i64 (-d)] 24)) = Y11 at HW1 A6 N0 N1 N2 A1 A2 A3 A5 ⊢
          generalize Y10.heap.size = gA6 at A6 ⊢
          go_wp2_with fail
          refine (awake_any _).mono ?_
          rintro e Y12 ⟨rfl, hB⟩
          replace HW1 := Lib.hid (HW1.out.trans (hB.mono HW1.out.size))
          replace N0 := Lib.hid (N0.out.keep hB)
          replace N1 := Lib.hid (N1.out.keep hB)
          replace N2 := Lib.hid (N2.out.keep hB)
          replace A1 := Lib.hid (A1.out.keep hB)
          replace A2 := Lib.hid (A2.out.keep hB)
          replace A3 := Lib.hid (A3.out.keep hB)
          replace A5 := Lib.hid (A5.out.keep hB)
          replace A6 := Lib.hid (A6.out.keep hB)
          clear hB
          have A5a := A5.out.c0
          have A5b := A5.out.c1
          have A6a := A6.out.c0
          have A6b := A6.out.c1
          go_wp2_with fail
          refine (HG.out _).mono ?_
          rintro e Y13 ⟨rfl, hB⟩
          clear A5a A5b
          clear A6a A6b
          replace HW1 := Lib.hid (HW1.out.trans (hB.mono HW1.out.size))
          replace N0 := Lib.hid (N0.out.keep hB)
          replace N1 := Lib.hid (N1.out.keep hB)
          replace N2 := Lib.hid (N2.out.keep hB)
          replace A1 := Lib.hid (A1.out.keep hB)
          replace A2 := Lib.hid (A2.out.keep hB)
          replace A3 := Lib.hid (A3.out.keep hB)
          replace A5 := Lib.hid (A5.out.keep hB)
          replace A6 := Lib.hid (A6.out.keep hB)
          clear hB
          go_wp2
          go_ret
          exact ⟨rfl, HW1.out⟩
        · have HM : Hid (∀ w, Calls Try.prog 21 #[.agg #[.int .i64 a, .int .i64 b]] w fun e w' => e = .returned (.tuple #[.agg #[.int .i64 a, .int .i64 (-b)], .int .i64 0]) ∧ Below w.heap.size w w') := Lib.hid fun w => by
            have h := mirror_any a b w
            rw [(mirror_on hA).1] at h
            exact h
          have HN : Hid (∀ w, Calls Try.prog 21 #[.agg #[.int .i64 c, .int .i64 d]] w fun e w' => e = .returned (.tuple #[.agg #[.int .i64 0, .int .i64 0], .int .i64 1]) ∧ Below w.heap.size w w') := Lib.hid fun w => by
            have h := mirror_any c d w
            rw [mirror_off hC] at h
            exact h
          clear hA hC
          have N0a := N0.out.c0
          have N0b := N0.out.c1
          go_wp2_with fail
          refine (HM.out _).mono ?_
          rintro e Y8 ⟨rfl, hB⟩
          clear N0a N0b
          replace HW1 := Lib.hid (HW1.out.trans (hB.mono HW1.out.size))
          replace N0 := Lib.hid (N0.out.keep hB)
          replace N1 := Lib.hid (N1.out.keep hB)
          replace N2 := Lib.hid (N2.out.keep hB)
          replace A1 := Lib.hid (A1.out.keep hB)
          replace A2 := Lib.hid (A2.out.keep hB)
          replace A3 := Lib.hid (A3.out.keep hB)
          clear hB
          go_upto_region 11 with fail
          have A5 : Hid (Pt (Y8.alloc (.cells #[.int .i64 a, .int .i64 (-b)] 24)) Y8.heap.size 24 a (-b)) := Lib.hid (Pt.mk_ rfl)
          replace N0 := Lib.hid (N0.out.alloc (.cells #[.int .i64 a, .int .i64 (-b)] 24))
          replace N1 := Lib.hid (N1.out.alloc (.cells #[.int .i64 a, .int .i64 (-b)] 24))
          replace N2 := Lib.hid (N2.out.alloc (.cells #[.int .i64 a, .int .i64 (-b)] 24))
          replace A1 := Lib.hid (A1.out.alloc (.cells #[.int .i64 a, .int .i64 (-b)] 24))
          replace A2 := Lib.hid (A2.out.alloc (.cells #[.int .i64 a, .int .i64 (-b)] 24))
          replace A3 := Lib.hid (A3.out.alloc (.cells #[.int .i64 a, .int .i64 (-b)] 24))
          replace HW1 := Lib.hid (HW1.out.alloc HW1.out.size (.cells #[.int .i64 a, .int .i64 (-b)] 24))
          generalize (Y8.alloc (.cells #[.int .i64 a, .int .i64 (-b)] 24)) = Y9 at HW1 A5 N0 N1 N2 A1 A2 A3 ⊢
          generalize Y8.heap.size = gA5 at A5 ⊢
          have N1a := N1.out.c0
          have N1b := N1.out.c1
          go_wp2_with fail
          refine (HN.out _).mono ?_
          rintro e Y10 ⟨rfl, hB⟩
          clear N1a N1b
          replace HW1 := Lib.hid (HW1.out.trans (hB.mono HW1.out.size))
          replace N0 := Lib.hid (N0.out.keep hB)
          replace N1 := Lib.hid (N1.out.keep hB)
          replace N2 := Lib.hid (N2.out.keep hB)
          replace A1 := Lib.hid (A1.out.keep hB)
          replace A2 := Lib.hid (A2.out.keep hB)
          replace A3 := Lib.hid (A3.out.keep hB)
          replace A5 := Lib.hid (A5.out.keep hB)
          clear hB
          go_upto_region 12 with fail
          have A6 : Hid (Pt (Y10.alloc (.cells #[.int .i64 0, .int .i64 0] 24)) Y10.heap.size 24 0 0) := Lib.hid (Pt.mk_ rfl)
          replace N0 := Lib.hid (N0.out.alloc (.cells #[.int .i64 0, .int .i64 0] 24))
          replace N1 := Lib.hid (N1.out.alloc (.cells #[.int .i64 0, .int .i64 0] 24))
          replace N2 := Lib.hid (N2.out.alloc (.cells #[.int .i64 0, .int .i64 0] 24))
          replace A1 := Lib.hid (A1.out.alloc (.cells #[.int .i64 0, .int .i64 0] 24))
          replace A2 := Lib.hid (A2.out.alloc (.cells #[.int .i64 0, .int .i64 0] 24))
          replace A3 := Lib.hid (A3.out.alloc (.cells #[.int .i64 0, .int .i64 0] 24))
          replace A5 := Lib.hid (A5.out.alloc (.cells #[.int .i64 0, .int .i64 0] 24))
          replace HW1 := Lib.hid (HW1.out.alloc HW1.out.size (.cells #[.int .i64 0, .int .i64 0] 24))
          generalize (Y10.alloc (.cells #[.int .i64 0, .int .i64 0] 24)) = Y11 at HW1 A6 N0 N1 N2 A1 A2 A3 A5 ⊢
          generalize Y10.heap.size = gA6 at A6 ⊢
          go_wp2_with fail
          refine (awake_any _).mono ?_
          rintro e Y12 ⟨rfl, hB⟩
          replace HW1 := Lib.hid (HW1.out.trans (hB.mono HW1.out.size))
          replace N0 := Lib.hid (N0.out.keep hB)
          replace N1 := Lib.hid (N1.out.keep hB)
          replace N2 := Lib.hid (N2.out.keep hB)
          replace A1 := Lib.hid (A1.out.keep hB)
          replace A2 := Lib.hid (A2.out.keep hB)
          replace A3 := Lib.hid (A3.out.keep hB)
          replace A5 := Lib.hid (A5.out.keep hB)
          replace A6 := Lib.hid (A6.out.keep hB)
          clear hB
          go_wp2
          go_ret
          exact ⟨rfl, HW1.out⟩
    · have b1 : (r1.e == 0) = false := by simpa using e1
      clear e1
      obtain ⟨r3, h3⟩ : ∃ r, turnP r1.x r1.y p q m = r := ⟨_, rfl⟩
      have HT3 : Hid (∀ w, Calls Try.prog 19 #[.agg #[.int .i64 r1.x, .int .i64 r1.y], .agg #[.int .i64 p, .int .i64 q], .int .i64 m] w fun e w' => e = .returned (.tuple #[.agg #[.int .i64 r3.x, .int .i64 r3.y], .int .i64 r3.e]) ∧ Below w.heap.size w w') := Lib.hid fun w => by
        have h := turn_any r1.x r1.y p q m w
        rw [h3] at h
        exact h
      clear h3
      go_upto_region 7 with fail
      have A1a := A1.out.c0
      have A1b := A1.out.c1
      have N2a := N2.out.c0
      have N2b := N2.out.c1
      go_wp2_with fail
      refine (HT3.out _).mono ?_
      rintro e Y6 ⟨rfl, hB⟩
      clear A1a A1b
      clear N2a N2b
      replace HW1 := Lib.hid (HW1.out.trans (hB.mono HW1.out.size))
      replace N0 := Lib.hid (N0.out.keep hB)
      replace N1 := Lib.hid (N1.out.keep hB)
      replace N2 := Lib.hid (N2.out.keep hB)
      replace A1 := Lib.hid (A1.out.keep hB)
      replace A2 := Lib.hid (A2.out.keep hB)
      clear hB
      go_upto_region 8 with fail
      have A3 : Hid (Pt (Y6.alloc (.cells #[.int .i64 r3.x, .int .i64 r3.y] 24)) Y6.heap.size 24 r3.x r3.y) := Lib.hid (Pt.mk_ rfl)
      replace N0 := Lib.hid (N0.out.alloc (.cells #[.int .i64 r3.x, .int .i64 r3.y] 24))
      replace N1 := Lib.hid (N1.out.alloc (.cells #[.int .i64 r3.x, .int .i64 r3.y] 24))
      replace N2 := Lib.hid (N2.out.alloc (.cells #[.int .i64 r3.x, .int .i64 r3.y] 24))
      replace A1 := Lib.hid (A1.out.alloc (.cells #[.int .i64 r3.x, .int .i64 r3.y] 24))
      replace A2 := Lib.hid (A2.out.alloc (.cells #[.int .i64 r3.x, .int .i64 r3.y] 24))
      replace HW1 := Lib.hid (HW1.out.alloc HW1.out.size (.cells #[.int .i64 r3.x, .int .i64 r3.y] 24))
      generalize (Y6.alloc (.cells #[.int .i64 r3.x, .int .i64 r3.y] 24)) = Y7 at HW1 A3 N0 N1 N2 A1 A2 ⊢
      generalize Y6.heap.size = gA3 at A3 ⊢
      have A3a := A3.out.c0
      have A3b := A3.out.c1
      have N0a := N0.out.c0
      have N0b := N0.out.c1
      go_upto_region 10 with fail
      clear A3a A3b
      clear N0a N0b
      by_cases hA : On a b
      · by_cases hC : On c d
        · have HM : Hid (∀ w, Calls Try.prog 21 #[.agg #[.int .i64 a, .int .i64 b]] w fun e w' => e = .returned (.tuple #[.agg #[.int .i64 a, .int .i64 (-b)], .int .i64 0]) ∧ Below w.heap.size w w') := Lib.hid fun w => by
            have h := mirror_any a b w
            rw [(mirror_on hA).1] at h
            exact h
          have HN : Hid (∀ w, Calls Try.prog 21 #[.agg #[.int .i64 c, .int .i64 d]] w fun e w' => e = .returned (.tuple #[.agg #[.int .i64 c, .int .i64 (-d)], .int .i64 0]) ∧ Below w.heap.size w w') := Lib.hid fun w => by
            have h := mirror_any c d w
            rw [(mirror_on hC).1] at h
            exact h
          have HG : Hid (∀ w, Calls Try.prog 25 #[.agg #[.int .i64 a, .int .i64 (-b)], .agg #[.int .i64 c, .int .i64 (-d)]] w fun e w' => e = .returned (.int .i64 F) ∧ Below w.heap.size w w') := Lib.hid fun w => by
            have h := far_any a (-b) c (-d) w
            rw [mirror_far hA hC, HF0.out] at h
            exact h
          clear hA hC
          have N0a := N0.out.c0
          have N0b := N0.out.c1
          go_wp2_with fail
          refine (HM.out _).mono ?_
          rintro e Y8 ⟨rfl, hB⟩
          clear N0a N0b
          replace HW1 := Lib.hid (HW1.out.trans (hB.mono HW1.out.size))
          replace N0 := Lib.hid (N0.out.keep hB)
          replace N1 := Lib.hid (N1.out.keep hB)
          replace N2 := Lib.hid (N2.out.keep hB)
          replace A1 := Lib.hid (A1.out.keep hB)
          replace A2 := Lib.hid (A2.out.keep hB)
          replace A3 := Lib.hid (A3.out.keep hB)
          clear hB
          go_upto_region 11 with fail
          have A5 : Hid (Pt (Y8.alloc (.cells #[.int .i64 a, .int .i64 (-b)] 24)) Y8.heap.size 24 a (-b)) := Lib.hid (Pt.mk_ rfl)
          replace N0 := Lib.hid (N0.out.alloc (.cells #[.int .i64 a, .int .i64 (-b)] 24))
          replace N1 := Lib.hid (N1.out.alloc (.cells #[.int .i64 a, .int .i64 (-b)] 24))
          replace N2 := Lib.hid (N2.out.alloc (.cells #[.int .i64 a, .int .i64 (-b)] 24))
          replace A1 := Lib.hid (A1.out.alloc (.cells #[.int .i64 a, .int .i64 (-b)] 24))
          replace A2 := Lib.hid (A2.out.alloc (.cells #[.int .i64 a, .int .i64 (-b)] 24))
          replace A3 := Lib.hid (A3.out.alloc (.cells #[.int .i64 a, .int .i64 (-b)] 24))
          replace HW1 := Lib.hid (HW1.out.alloc HW1.out.size (.cells #[.int .i64 a, .int .i64 (-b)] 24))
          generalize (Y8.alloc (.cells #[.int .i64 a, .int .i64 (-b)] 24)) = Y9 at HW1 A5 N0 N1 N2 A1 A2 A3 ⊢
          generalize Y8.heap.size = gA5 at A5 ⊢
          have N1a := N1.out.c0
          have N1b := N1.out.c1
          go_wp2_with fail
          refine (HN.out _).mono ?_
          rintro e Y10 ⟨rfl, hB⟩
          clear N1a N1b
          replace HW1 := Lib.hid (HW1.out.trans (hB.mono HW1.out.size))
          replace N0 := Lib.hid (N0.out.keep hB)
          replace N1 := Lib.hid (N1.out.keep hB)
          replace N2 := Lib.hid (N2.out.keep hB)
          replace A1 := Lib.hid (A1.out.keep hB)
          replace A2 := Lib.hid (A2.out.keep hB)
          replace A3 := Lib.hid (A3.out.keep hB)
          replace A5 := Lib.hid (A5.out.keep hB)
          clear hB
          go_upto_region 12 with fail
          have A6 : Hid (Pt (Y10.alloc (.cells #[.int .i64 c, .int .i64 (-d)] 24)) Y10.heap.size 24 c (-d)) := Lib.hid (Pt.mk_ rfl)
          replace N0 := Lib.hid (N0.out.alloc (.cells #[.int .i64 c, .int .i64 (-d)] 24))
          replace N1 := Lib.hid (N1.out.alloc (.cells #[.int .i64 c, .int .i64 (-d)] 24))
          replace N2 := Lib.hid (N2.out.alloc (.cells #[.int .i64 c, .int .i64 (-d)] 24))
          replace A1 := Lib.hid (A1.out.alloc (.cells #[.int .i64 c, .int .i64 (-d)] 24))
          replace A2 := Lib.hid (A2.out.alloc (.cells #[.int .i64 c, .int .i64 (-d)] 24))
          replace A3 := Lib.hid (A3.out.alloc (.cells #[.int .i64 c, .int .i64 (-d)] 24))
          replace A5 := Lib.hid (A5.out.alloc (.cells #[.int .i64 c, .int .i64 (-d)] 24))
          replace HW1 := Lib.hid (HW1.out.alloc HW1.out.size (.cells #[.int .i64 c, .int .i64 (-d)] 24))
          generalize (Y10.alloc (.cells #[.int .i64 c, .int .i64 (-d)] 24)) = Y11 at HW1 A6 N0 N1 N2 A1 A2 A3 A5 ⊢
          generalize Y10.heap.size = gA6 at A6 ⊢
          go_wp2_with fail
          refine (awake_any _).mono ?_
          rintro e Y12 ⟨rfl, hB⟩
          replace HW1 := Lib.hid (HW1.out.trans (hB.mono HW1.out.size))
          replace N0 := Lib.hid (N0.out.keep hB)
          replace N1 := Lib.hid (N1.out.keep hB)
          replace N2 := Lib.hid (N2.out.keep hB)
          replace A1 := Lib.hid (A1.out.keep hB)
          replace A2 := Lib.hid (A2.out.keep hB)
          replace A3 := Lib.hid (A3.out.keep hB)
          replace A5 := Lib.hid (A5.out.keep hB)
          replace A6 := Lib.hid (A6.out.keep hB)
          clear hB
          have A5a := A5.out.c0
          have A5b := A5.out.c1
          have A6a := A6.out.c0
          have A6b := A6.out.c1
          go_wp2_with fail
          refine (HG.out _).mono ?_
          rintro e Y13 ⟨rfl, hB⟩
          clear A5a A5b
          clear A6a A6b
          replace HW1 := Lib.hid (HW1.out.trans (hB.mono HW1.out.size))
          replace N0 := Lib.hid (N0.out.keep hB)
          replace N1 := Lib.hid (N1.out.keep hB)
          replace N2 := Lib.hid (N2.out.keep hB)
          replace A1 := Lib.hid (A1.out.keep hB)
          replace A2 := Lib.hid (A2.out.keep hB)
          replace A3 := Lib.hid (A3.out.keep hB)
          replace A5 := Lib.hid (A5.out.keep hB)
          replace A6 := Lib.hid (A6.out.keep hB)
          clear hB
          go_wp2
          go_ret
          exact ⟨rfl, HW1.out⟩
        · have HM : Hid (∀ w, Calls Try.prog 21 #[.agg #[.int .i64 a, .int .i64 b]] w fun e w' => e = .returned (.tuple #[.agg #[.int .i64 a, .int .i64 (-b)], .int .i64 0]) ∧ Below w.heap.size w w') := Lib.hid fun w => by
            have h := mirror_any a b w
            rw [(mirror_on hA).1] at h
            exact h
          have HN : Hid (∀ w, Calls Try.prog 21 #[.agg #[.int .i64 c, .int .i64 d]] w fun e w' => e = .returned (.tuple #[.agg #[.int .i64 0, .int .i64 0], .int .i64 1]) ∧ Below w.heap.size w w') := Lib.hid fun w => by
            have h := mirror_any c d w
            rw [mirror_off hC] at h
            exact h
          clear hA hC
          have N0a := N0.out.c0
          have N0b := N0.out.c1
          go_wp2_with fail
          refine (HM.out _).mono ?_
          rintro e Y8 ⟨rfl, hB⟩
          clear N0a N0b
          replace HW1 := Lib.hid (HW1.out.trans (hB.mono HW1.out.size))
          replace N0 := Lib.hid (N0.out.keep hB)
          replace N1 := Lib.hid (N1.out.keep hB)
          replace N2 := Lib.hid (N2.out.keep hB)
          replace A1 := Lib.hid (A1.out.keep hB)
          replace A2 := Lib.hid (A2.out.keep hB)
          replace A3 := Lib.hid (A3.out.keep hB)
          clear hB
          go_upto_region 11 with fail
          have A5 : Hid (Pt (Y8.alloc (.cells #[.int .i64 a, .int .i64 (-b)] 24)) Y8.heap.size 24 a (-b)) := Lib.hid (Pt.mk_ rfl)
          replace N0 := Lib.hid (N0.out.alloc (.cells #[.int .i64 a, .int .i64 (-b)] 24))
          replace N1 := Lib.hid (N1.out.alloc (.cells #[.int .i64 a, .int .i64 (-b)] 24))
          replace N2 := Lib.hid (N2.out.alloc (.cells #[.int .i64 a, .int .i64 (-b)] 24))
          replace A1 := Lib.hid (A1.out.alloc (.cells #[.int .i64 a, .int .i64 (-b)] 24))
          replace A2 := Lib.hid (A2.out.alloc (.cells #[.int .i64 a, .int .i64 (-b)] 24))
          replace A3 := Lib.hid (A3.out.alloc (.cells #[.int .i64 a, .int .i64 (-b)] 24))
          replace HW1 := Lib.hid (HW1.out.alloc HW1.out.size (.cells #[.int .i64 a, .int .i64 (-b)] 24))
          generalize (Y8.alloc (.cells #[.int .i64 a, .int .i64 (-b)] 24)) = Y9 at HW1 A5 N0 N1 N2 A1 A2 A3 ⊢
          generalize Y8.heap.size = gA5 at A5 ⊢
          have N1a := N1.out.c0
          have N1b := N1.out.c1
          go_wp2_with fail
          refine (HN.out _).mono ?_
          rintro e Y10 ⟨rfl, hB⟩
          clear N1a N1b
          replace HW1 := Lib.hid (HW1.out.trans (hB.mono HW1.out.size))
          replace N0 := Lib.hid (N0.out.keep hB)
          replace N1 := Lib.hid (N1.out.keep hB)
          replace N2 := Lib.hid (N2.out.keep hB)
          replace A1 := Lib.hid (A1.out.keep hB)
          replace A2 := Lib.hid (A2.out.keep hB)
          replace A3 := Lib.hid (A3.out.keep hB)
          replace A5 := Lib.hid (A5.out.keep hB)
          clear hB
          go_upto_region 12 with fail
          have A6 : Hid (Pt (Y10.alloc (.cells #[.int .i64 0, .int .i64 0] 24)) Y10.heap.size 24 0 0) := Lib.hid (Pt.mk_ rfl)
          replace N0 := Lib.hid (N0.out.alloc (.cells #[.int .i64 0, .int .i64 0] 24))
          replace N1 := Lib.hid (N1.out.alloc (.cells #[.int .i64 0, .int .i64 0] 24))
          replace N2 := Lib.hid (N2.out.alloc (.cells #[.int .i64 0, .int .i64 0] 24))
          replace A1 := Lib.hid (A1.out.alloc (.cells #[.int .i64 0, .int .i64 0] 24))
          replace A2 := Lib.hid (A2.out.alloc (.cells #[.int .i64 0, .int .i64 0] 24))
          replace A3 := Lib.hid (A3.out.alloc (.cells #[.int .i64 0, .int .i64 0] 24))
          replace A5 := Lib.hid (A5.out.alloc (.cells #[.int .i64 0, .int .i64 0] 24))
          replace HW1 := Lib.hid (HW1.out.alloc HW1.out.size (.cells #[.int .i64 0, .int .i64 0] 24))
          generalize (Y10.alloc (.cells #[.int .i64 0, .int .i64 0] 24)) = Y11 at HW1 A6 N0 N1 N2 A1 A2 A3 A5 ⊢
          generalize Y10.heap.size = gA6 at A6 ⊢
          go_wp2_with fail
          refine (awake_any _).mono ?_
          rintro e Y12 ⟨rfl, hB⟩
          replace HW1 := Lib.hid (HW1.out.trans (hB.mono HW1.out.size))
          replace N0 := Lib.hid (N0.out.keep hB)
          replace N1 := Lib.hid (N1.out.keep hB)
          replace N2 := Lib.hid (N2.out.keep hB)
          replace A1 := Lib.hid (A1.out.keep hB)
          replace A2 := Lib.hid (A2.out.keep hB)
          replace A3 := Lib.hid (A3.out.keep hB)
          replace A5 := Lib.hid (A5.out.keep hB)
          replace A6 := Lib.hid (A6.out.keep hB)
          clear hB
          go_wp2
          go_ret
          exact ⟨rfl, HW1.out⟩
      · have HM : Hid (∀ w, Calls Try.prog 21 #[.agg #[.int .i64 a, .int .i64 b]] w fun e w' => e = .returned (.tuple #[.agg #[.int .i64 0, .int .i64 0], .int .i64 1]) ∧ Below w.heap.size w w') := Lib.hid fun w => by
          have h := mirror_any a b w
          rw [mirror_off hA] at h
          exact h
        obtain ⟨r5, h5⟩ : ∃ r, mirrorP c d = r := ⟨_, rfl⟩
        have HN : Hid (∀ w, Calls Try.prog 21 #[.agg #[.int .i64 c, .int .i64 d]] w fun e w' => e = .returned (.tuple #[.agg #[.int .i64 r5.x, .int .i64 r5.y], .int .i64 r5.e]) ∧ Below w.heap.size w w') := Lib.hid fun w => by
          have h := mirror_any c d w
          rw [h5] at h
          exact h
        clear h5
        clear hA
        have N0a := N0.out.c0
        have N0b := N0.out.c1
        go_wp2_with fail
        refine (HM.out _).mono ?_
        rintro e Y8 ⟨rfl, hB⟩
        clear N0a N0b
        replace HW1 := Lib.hid (HW1.out.trans (hB.mono HW1.out.size))
        replace N0 := Lib.hid (N0.out.keep hB)
        replace N1 := Lib.hid (N1.out.keep hB)
        replace N2 := Lib.hid (N2.out.keep hB)
        replace A1 := Lib.hid (A1.out.keep hB)
        replace A2 := Lib.hid (A2.out.keep hB)
        replace A3 := Lib.hid (A3.out.keep hB)
        clear hB
        go_upto_region 11 with fail
        have A5 : Hid (Pt (Y8.alloc (.cells #[.int .i64 0, .int .i64 0] 24)) Y8.heap.size 24 0 0) := Lib.hid (Pt.mk_ rfl)
        replace N0 := Lib.hid (N0.out.alloc (.cells #[.int .i64 0, .int .i64 0] 24))
        replace N1 := Lib.hid (N1.out.alloc (.cells #[.int .i64 0, .int .i64 0] 24))
        replace N2 := Lib.hid (N2.out.alloc (.cells #[.int .i64 0, .int .i64 0] 24))
        replace A1 := Lib.hid (A1.out.alloc (.cells #[.int .i64 0, .int .i64 0] 24))
        replace A2 := Lib.hid (A2.out.alloc (.cells #[.int .i64 0, .int .i64 0] 24))
        replace A3 := Lib.hid (A3.out.alloc (.cells #[.int .i64 0, .int .i64 0] 24))
        replace HW1 := Lib.hid (HW1.out.alloc HW1.out.size (.cells #[.int .i64 0, .int .i64 0] 24))
        generalize (Y8.alloc (.cells #[.int .i64 0, .int .i64 0] 24)) = Y9 at HW1 A5 N0 N1 N2 A1 A2 A3 ⊢
        generalize Y8.heap.size = gA5 at A5 ⊢
        have N1a := N1.out.c0
        have N1b := N1.out.c1
        go_wp2_with fail
        refine (HN.out _).mono ?_
        rintro e Y10 ⟨rfl, hB⟩
        clear N1a N1b
        replace HW1 := Lib.hid (HW1.out.trans (hB.mono HW1.out.size))
        replace N0 := Lib.hid (N0.out.keep hB)
        replace N1 := Lib.hid (N1.out.keep hB)
        replace N2 := Lib.hid (N2.out.keep hB)
        replace A1 := Lib.hid (A1.out.keep hB)
        replace A2 := Lib.hid (A2.out.keep hB)
        replace A3 := Lib.hid (A3.out.keep hB)
        replace A5 := Lib.hid (A5.out.keep hB)
        clear hB
        go_upto_region 12 with fail
        have A6 : Hid (Pt (Y10.alloc (.cells #[.int .i64 r5.x, .int .i64 r5.y] 24)) Y10.heap.size 24 r5.x r5.y) := Lib.hid (Pt.mk_ rfl)
        replace N0 := Lib.hid (N0.out.alloc (.cells #[.int .i64 r5.x, .int .i64 r5.y] 24))
        replace N1 := Lib.hid (N1.out.alloc (.cells #[.int .i64 r5.x, .int .i64 r5.y] 24))
        replace N2 := Lib.hid (N2.out.alloc (.cells #[.int .i64 r5.x, .int .i64 r5.y] 24))
        replace A1 := Lib.hid (A1.out.alloc (.cells #[.int .i64 r5.x, .int .i64 r5.y] 24))
        replace A2 := Lib.hid (A2.out.alloc (.cells #[.int .i64 r5.x, .int .i64 r5.y] 24))
        replace A3 := Lib.hid (A3.out.alloc (.cells #[.int .i64 r5.x, .int .i64 r5.y] 24))
        replace A5 := Lib.hid (A5.out.alloc (.cells #[.int .i64 r5.x, .int .i64 r5.y] 24))
        replace HW1 := Lib.hid (HW1.out.alloc HW1.out.size (.cells #[.int .i64 r5.x, .int .i64 r5.y] 24))
        generalize (Y10.alloc (.cells #[.int .i64 r5.x, .int .i64 r5.y] 24)) = Y11 at HW1 A6 N0 N1 N2 A1 A2 A3 A5 ⊢
        generalize Y10.heap.size = gA6 at A6 ⊢
        go_wp2_with fail
        refine (awake_any _).mono ?_
        rintro e Y12 ⟨rfl, hB⟩
        replace HW1 := Lib.hid (HW1.out.trans (hB.mono HW1.out.size))
        replace N0 := Lib.hid (N0.out.keep hB)
        replace N1 := Lib.hid (N1.out.keep hB)
        replace N2 := Lib.hid (N2.out.keep hB)
        replace A1 := Lib.hid (A1.out.keep hB)
        replace A2 := Lib.hid (A2.out.keep hB)
        replace A3 := Lib.hid (A3.out.keep hB)
        replace A5 := Lib.hid (A5.out.keep hB)
        replace A6 := Lib.hid (A6.out.keep hB)
        clear hB
        go_wp2
        go_ret
        exact ⟨rfl, HW1.out⟩

end Go.Proofs.Ytjbjekejekmipaa
