/-
  tollhouselaw03.MillFor (function 5): the sum for any domain of any parts, and any secret's lock, are the document's.
-/
import Derived.Test.YtcpjfdaacnkcnaaDoorRefFor
import Derived.Test.YtcpjfdaacnkcnaaDoorSumsWalk
namespace Go.Proofs.YtcpjfdaacnkcnaaDoor
open Go.RowKit
set_option linter.unusedVariables false

theorem eql_sum40 (l : List Nat) (w : World) : (binOp .eql 40 (.agg (w8 (sha l)).toArray) (.agg (w8 (sha l)).toArray)).run Tryd.prog w = .ok (.bool true) w := by
  rw [eql_row Tryd.underlying40 (sha l) (sha l) (sha_length l) (sha_length l)]
  simp

/-- A call at a step of a region that draws its order. -/
theorem step_call {ops : Array Oper} {o : Oper} {a : Act} {w : World} {K : Act → World → Prop} {Q : Exit → Act → World → Prop} {E : Prop} (hw : Region.wanted o (yielded ops a.tmps) = true) (f : FuncId) (args : Array Operand) (tys : Array TypeId)
    (ho : o.op = .call { callee := .value (.func f), args := args, argTypes := tys }) (vs : Array Value) (hv : args.map a.eval = vs) {R : Ending → World → Prop} (hf : (callFunc f vs).run Tryd.prog w = .ok (.enter f vs) w) (hc : Calls Tryd.prog f vs w R)
    (hR : ∀ e w', R e w' → ∃ v, e = .returned v ∧ K (a.put o.dst v) w') :
    if Region.wanted o (yielded ops a.tmps) = true then Oper.wp Tryd.prog o a w K Q else E := by
  rw [if_pos hw]
  have e : (execOp a.eval o).run Tryd.prog w = .ok (.enter f vs) w := by
    unfold execOp
    simp only [ho]
    go_simp
    first | done | (rw [hv]; exact hf)
  unfold Oper.wp
  rw [e, Oper.upon_enter]
  refine hc.mono ?_
  intro e w' hr
  obtain ⟨v, rfl, hv⟩ := hR e w' hr
  exact hv

set_option maxRecDepth 100000 in
set_option maxHeartbeats 2000000 in
theorem millFor_walk (d : Nat) (A : Option Addr) (m c : Nat) (ps : List (List Nat)) (s : List Nat) (W : World) (HT : Hid (Tab W)) (hd : d < 256) (HC : Hid (Came W A m ps)) (HL : Hid (s.length = 32)) (HS : Hid (∀ x ∈ s, x < 256)) :
    Calls Tryd.prog 5 #[.int .u8 (d : Int), .slice A m c, .agg (w8 s).toArray] W fun e W' => e = .returned (.bool true) ∧ Below W.heap.size W W' := by
  have hm := HC.out.most
  have HSB : Hid (Blk (W.alloc (.cells (w8 s).toArray 24)) W.heap.size 24 (w8 s)) := Lib.hid (Blk.new W 24 (w8 s))
  have HB0 : Hid (Below W.heap.size W (W.alloc (.cells (w8 s).toArray 24))) := Lib.hid ((Below.refl _ _).alloc (Nat.le_refl _) _)
  by_cases h300 : m ≤ 300
  · have h300' : (m : Int) ≤ 300 := by omega
    go_enter Tryd.func5, Tryd.ntmps5
    go_wp2_with fail
    generalize W.alloc (.cells (w8 s).toArray 24) = V at HSB HB0 ⊢
    have HT0 := Lib.hid (HT.out.below HB0.out HT.out.lt)
    go_loop [13, 7, 9] (fun i t _ => ∃ (k v : Nat), k ≤ m ∧ i = .int .i64 k ∧ t = .int .i64 v ∧ v ≤ 42221246506598400 ∧ Hid ((ps.take k).flatten.length = v)) (fun i _ _ => m - (intOf i).toNat)
    case atStart => exact ⟨0, 0, Nat.zero_le _, rfl, rfl, by omega, Lib.hid rfl⟩
    case round =>
      obtain ⟨k, v, hk, rfl, rfl, hvb, HV⟩ := hrel
      by_cases hlt : k < m
      · obtain ⟨g, off, Ai, ci, rfl, hg, hgW, hcell, hci, _, hfl, hlen, _⟩ := HC.out.at_ HB0.out k hlt
        obtain ⟨n, hn⟩ : ∃ n, (ps.getD k []).length = n := ⟨_, rfl⟩
        have HV2 : Hid ((ps.take (k + 1)).flatten.length = v + n) := Lib.hid (by rw [hfl, List.length_append, HV.out, hn])
        have hv2 : v + n ≤ 42221246506598400 := by have h1 := HC.out.total (k + 1) (by omega); rw [HV2.out] at h1; omega
        rw [hn] at hcell hlen
        clear hn hfl
        go_wp2
        go_round
        case rel => exact ⟨k + 1, v + n, by omega, by go_num, by go_num, hv2, HV2⟩
        case measure => simp [intOf]; omega
      · obtain rfl : k = m := by omega
        have htk : ps.take k = ps := List.take_of_length_le (by rw [HC.out.len]; exact Nat.le_refl _)
        rw [htk] at HV
        clear htk
        by_cases hv : 5000 < v
        · have hvI : (5000 : Int) < (v : Int) := by omega
          have hvB : decide ((5000 : Int) < (v : Int)) = true := by simpa using hvI
          go_wp2_with fail
          refine (awake_any _ HT0).mono ?_
          rintro e w1 ⟨rfl, h1⟩
          go_wp2
          go_ret
          exact ⟨rfl, HB0.out.trans (h1.mono HB0.out.size)⟩
        · have hvI : (v : Int) ≤ 5000 := by omega
          have hvB : decide ((5000 : Int) < (v : Int)) = false := by simpa using hvI
          go_wp2_with fail
          refine (make_any _).mono ?_
          rintro e w1 ⟨rfl, hB1⟩
          have hBV := hB1
          have HBB : Hid (Below W.heap.size W w1) := Lib.hid (HB0.out.trans (hB1.mono HB0.out.size))
          clear hB1
          go_wp2_with fail
          have HWB : Hid (Below W.heap.size W (w1.alloc (.cells #[.string firstText, .string roundText] 28))) := Lib.hid (HBB.out.alloc HBB.out.size _)
          have HBT : Hid (Blk (w1.alloc (.cells #[.string firstText, .string roundText] 28)) w1.heap.size 28 [.string firstText, .string roundText]) := Lib.hid (Blk.new w1 28 _)
          have HSB1 : Hid (Blk (w1.alloc (.cells #[.string firstText, .string roundText] 28)) W.heap.size 24 (w8 s)) := Lib.hid ((HSB.out.below hBV HSB.out.lt).alloc _)
          generalize w1.alloc (.cells #[.string firstText, .string roundText] 28) = B at HWB HBT HSB1 ⊢
          generalize w1.heap.size = g1 at HBT ⊢
          have HTB : Hid (∀ X, Below B.heap.size B X → Tab X) := Lib.hid fun X hX => HT.out.below (HWB.out.trans (hX.mono HWB.out.size)) HT.out.lt
          have HG28 : Hid (∀ X, Below B.heap.size B X → X.rangeAt g1 0 [.string firstText, .string roundText]) := Lib.hid fun X hX => (HBT.out.below hX HBT.out.lt).all
          have HG24 : Hid (∀ X, Below B.heap.size B X → X.rangeAt W.heap.size 0 (w8 s)) := Lib.hid fun X hX => (HSB1.out.below hX HSB1.out.lt).all
          have hu28 := Tryd.underlying28
          have hu24 := Tryd.underlying24
          have hi28 : (Tryd.prog.info? 28).map (·.size) = some ([.string firstText, .string roundText] : List Value).length := by kernel_rfl
          have HI24 : Hid ((Tryd.prog.info? 24).map (·.size) = some (w8 s).length) := Lib.hid (by rw [w8_length, HL.out]; exact info24)
          have HFL : Hid (ps.flatten.length ≤ 5000) := Lib.hid (by rw [HV.out]; omega)
          have HPX : Hid (∀ X, Below B.heap.size B X → Parts X W.heap.size A ps) := Lib.hid fun X hX => HC.out.parts.below (HWB.out.trans (hX.mono HWB.out.size))
          have HFOR : Hid (∀ X, Below B.heap.size B X → Calls Tryd.prog 16 #[.int .u8 (d : Int), .slice A k c] X fun e w' => e = .returned (.agg (w8 (sha (text d ps))).toArray) ∧ Below X.heap.size X w') := Lib.hid fun X hX => for_any d k c W.heap.size A ps X (Lib.hid (HTB.out X hX)) hd (Lib.hid (HPX.out X hX)) (Lib.hid HC.out.len) (by omega) (Lib.hid (by have := HFL.out; omega))
          have HRFOR : Hid (∀ X, Below B.heap.size B X → Calls Tryd.prog 17 #[.agg #[.string firstText, .string roundText], .int .u8 (d : Int), .slice A k c] X fun e w' => e = .returned (.agg (w8 (sha (text d ps))).toArray) ∧ Below X.heap.size X w') := Lib.hid fun X hX => reffor_any firstText roundText d k c W.heap.size A ps X (Lib.hid texts) hd (Lib.hid (HPX.out X hX)) (Lib.hid HC.out.len) (by omega) (Lib.hid (by have := HFL.out; omega)) (Lib.hid fun p hp => (HC.out.each p hp).2)
          have HLOCK : Hid (∀ X, Below B.heap.size B X → Calls Tryd.prog 18 #[.agg (w8 s).toArray] X fun e w' => e = .returned (.agg (w8 (sha (text 6 [s]))).toArray) ∧ Below X.heap.size X w') := Lib.hid fun X hX => lock_any s X (Lib.hid (HTB.out X hX)) HL HS
          have HRLOCK : Hid (∀ X, Below B.heap.size B X → Calls Tryd.prog 19 #[.agg #[.string firstText, .string roundText], .agg (w8 s).toArray] X fun e w' => e = .returned (.agg (w8 (sha (text 6 [s]))).toArray) ∧ Below X.heap.size X w') := Lib.hid fun X hX => reflock_any firstText roundText s X (Lib.hid texts) HL HS
          have heq1 := eql_sum (text d ps)
          have heq2 := eql_sum40 (text 6 [s])
          refine wp_region_held_drew (S := fun w' => Below B.heap.size B w') (by kernel_rfl) (Below.refl _ _).drew (fun hHeld => ?_)
          have HSX0 : Hid (Below B.heap.size B B.drew) := Lib.hid hHeld
          generalize B.drew = X0 at hHeld HSX0 ⊢
          refine wpAnyH_ready (rs := [0]) (by kernel_rfl) (by simp) ?_
          refine AllReadyH.cons rfl (fun K hK => ?_) AllReadyH.nil
          refine step_call rfl 9 #[] #[] rfl #[] (by simp) (by go_simp) (awake_any X0 (Lib.hid (HTB.out X0 HSX0.out))) ?_
          rintro e X1 ⟨rfl, hBX1⟩
          have HSX1 := Lib.hid (HSX0.out.trans (hBX1.mono HSX0.out.size))
          clear hBX1
          refine ⟨_, rfl, hK.out _ _ HSX1.out (fun hHeld => ?_)⟩
          clear hK K
          show wpAnyH _ _ _ _ _ _ _ (Act.put _ (some 31) _) _
          simp only [Act.put, List.setIfInBounds_toArray, List.set_cons_zero, List.set_cons_succ]
          refine wpAnyH_take (i := 1) (v := .bool true) rfl (by kernel_rfl) (by kernel_rfl) (by kernel_rfl) (fun _ _ _ h => h) (Or.inl ⟨by rfl, fun w _ => by rfl⟩) hHeld ?_
          show wpAnyH _ _ _ _ _ _ _ (Act.put _ (some 32) _) _
          simp only [Act.put, List.setIfInBounds_toArray, List.set_cons_zero, List.set_cons_succ]
          refine wpAnyH_take (i := 2) (v := .int .u8 (d : Int)) rfl (by kernel_rfl) (by kernel_rfl) (by kernel_rfl) (fun _ _ _ h => h) (Or.inl ⟨by rfl, fun w _ => by rfl⟩) hHeld ?_
          show wpAnyH _ _ _ _ _ _ _ (Act.put _ (some 33) _) _
          simp only [Act.put, List.setIfInBounds_toArray, List.set_cons_zero, List.set_cons_succ]
          refine wpAnyH_take (i := 3) (v := .slice A k c) rfl (by kernel_rfl) (by kernel_rfl) (by kernel_rfl) (fun _ _ _ h => h) (Or.inl ⟨by rfl, fun w _ => by rfl⟩) hHeld ?_
          show wpAnyH _ _ _ _ _ _ _ (Act.put _ (some 34) _) _
          simp only [Act.put, List.setIfInBounds_toArray, List.set_cons_zero, List.set_cons_succ]
          refine wpAnyH_take (i := 5) (v := .agg #[.string firstText, .string roundText]) rfl (by kernel_rfl) (by kernel_rfl) (by kernel_rfl) (fun _ _ _ h => h) (yieldsIf_load_mid (by rfl) 28 (.tmp 10) rfl g1 0 rfl [.string firstText, .string roundText] _ (fun w h => HG28.out w h) hu28 rfl hi28) hHeld ?_
          show wpAnyH _ _ _ _ _ _ _ (Act.put _ (some 36) _) _
          simp only [Act.put, List.setIfInBounds_toArray, List.set_cons_zero, List.set_cons_succ]
          refine wpAnyH_take (i := 6) (v := .int .u8 (d : Int)) rfl (by kernel_rfl) (by kernel_rfl) (by kernel_rfl) (fun _ _ _ h => h) (Or.inl ⟨by rfl, fun w _ => by rfl⟩) hHeld ?_
          show wpAnyH _ _ _ _ _ _ _ (Act.put _ (some 37) _) _
          simp only [Act.put, List.setIfInBounds_toArray, List.set_cons_zero, List.set_cons_succ]
          refine wpAnyH_take (i := 7) (v := .slice A k c) rfl (by kernel_rfl) (by kernel_rfl) (by kernel_rfl) (fun _ _ _ h => h) (Or.inl ⟨by rfl, fun w _ => by rfl⟩) hHeld ?_
          show wpAnyH _ _ _ _ _ _ _ (Act.put _ (some 38) _) _
          simp only [Act.put, List.setIfInBounds_toArray, List.set_cons_zero, List.set_cons_succ]
          refine wpAnyH_ready (rs := [4]) (by kernel_rfl) (by simp) ?_
          refine AllReadyH.cons rfl (fun K hK => ?_) AllReadyH.nil
          refine step_call rfl 16 #[.tmp 33, .tmp 34] #[5, 32] rfl #[.int .u8 (d : Int), .slice A k c] (by simp [Act.eval]) (by go_simp) (HFOR.out X1 HSX1.out) ?_
          rintro e X2 ⟨rfl, hBX2⟩
          have HSX2 := Lib.hid (HSX1.out.trans (hBX2.mono HSX1.out.size))
          clear hBX2
          refine ⟨_, rfl, hK.out _ _ HSX2.out (fun hHeld => ?_)⟩
          clear hK K
          show wpAnyH _ _ _ _ _ _ _ (Act.put _ (some 35) _) _
          simp only [Act.put, List.setIfInBounds_toArray, List.set_cons_zero, List.set_cons_succ]
          refine wpAnyH_ready (rs := [8]) (by kernel_rfl) (by simp) ?_
          refine AllReadyH.cons rfl (fun K hK => ?_) AllReadyH.nil
          refine step_call rfl 17 #[.tmp 36, .tmp 37, .tmp 38] #[28, 5, 32] rfl #[.agg #[.string firstText, .string roundText], .int .u8 (d : Int), .slice A k c] (by simp [Act.eval]) (by go_simp) (HRFOR.out X2 HSX2.out) ?_
          rintro e X3 ⟨rfl, hBX3⟩
          have HSX3 := Lib.hid (HSX2.out.trans (hBX3.mono HSX2.out.size))
          clear hBX3
          refine ⟨_, rfl, hK.out _ _ HSX3.out (fun hHeld => ?_)⟩
          clear hK K
          show wpAnyH _ _ _ _ _ _ _ (Act.put _ (some 39) _) _
          simp only [Act.put, List.setIfInBounds_toArray, List.set_cons_zero, List.set_cons_succ]
          refine wpAnyH_take (i := 9) (v := .bool true) rfl (by kernel_rfl) (by kernel_rfl) (by kernel_rfl) (fun _ _ _ h => h) (Or.inl ⟨by rfl, by intro w hSw; go_simp⟩) hHeld ?_
          show wpAnyH _ _ _ _ _ _ _ (Act.put _ (some 40) _) _
          simp only [Act.put, List.setIfInBounds_toArray, List.set_cons_zero, List.set_cons_succ]
          refine wpAnyH_take (i := 10) (v := .bool true) rfl (by kernel_rfl) (by kernel_rfl) (by kernel_rfl) (fun _ _ _ h => h) (Or.inl ⟨by rfl, by intro w hSw; first | rfl | go_simp⟩) hHeld ?_
          show wpAnyH _ _ _ _ _ _ _ (Act.put _ (some 41) _) _
          simp only [Act.put, List.setIfInBounds_toArray, List.set_cons_zero, List.set_cons_succ]
          refine wpAnyH_take (i := 11) (v := .bool true) rfl (by kernel_rfl) (by kernel_rfl) (by kernel_rfl) (fun _ _ _ h => h) (Or.inl ⟨by rfl, fun w _ => by rfl⟩) hHeld ?_
          show wpAnyH _ _ _ _ _ _ _ (Act.put _ (some 42) _) _
          simp only [Act.put, List.setIfInBounds_toArray, List.set_cons_zero, List.set_cons_succ]
          refine wpAnyH_take (i := 12) (v := .agg (w8 s).toArray) rfl (by kernel_rfl) (by kernel_rfl) (by kernel_rfl) (fun _ _ _ h => h) (yieldsIf_load_mid (by rfl) 24 (.tmp 5) rfl W.heap.size 0 rfl (w8 s) _ (fun w h => HG24.out w h) hu24 rfl HI24.out) hHeld ?_
          show wpAnyH _ _ _ _ _ _ _ (Act.put _ (some 43) _) _
          simp only [Act.put, List.setIfInBounds_toArray, List.set_cons_zero, List.set_cons_succ]
          refine wpAnyH_take (i := 14) (v := .agg #[.string firstText, .string roundText]) rfl (by kernel_rfl) (by kernel_rfl) (by kernel_rfl) (fun _ _ _ h => h) (yieldsIf_load_mid (by rfl) 28 (.tmp 10) rfl g1 0 rfl [.string firstText, .string roundText] _ (fun w h => HG28.out w h) hu28 rfl hi28) hHeld ?_
          show wpAnyH _ _ _ _ _ _ _ (Act.put _ (some 45) _) _
          simp only [Act.put, List.setIfInBounds_toArray, List.set_cons_zero, List.set_cons_succ]
          refine wpAnyH_take (i := 15) (v := .agg (w8 s).toArray) rfl (by kernel_rfl) (by kernel_rfl) (by kernel_rfl) (fun _ _ _ h => h) (yieldsIf_load_mid (by rfl) 24 (.tmp 5) rfl W.heap.size 0 rfl (w8 s) _ (fun w h => HG24.out w h) hu24 rfl HI24.out) hHeld ?_
          show wpAnyH _ _ _ _ _ _ _ (Act.put _ (some 46) _) _
          simp only [Act.put, List.setIfInBounds_toArray, List.set_cons_zero, List.set_cons_succ]
          refine wpAnyH_ready (rs := [13]) (by kernel_rfl) (by simp) ?_
          refine AllReadyH.cons rfl (fun K hK => ?_) AllReadyH.nil
          refine step_call rfl 18 #[.tmp 43] #[68] rfl #[.agg (w8 s).toArray] (by simp [Act.eval]) (by go_simp) (HLOCK.out X3 HSX3.out) ?_
          rintro e X4 ⟨rfl, hBX4⟩
          have HSX4 := Lib.hid (HSX3.out.trans (hBX4.mono HSX3.out.size))
          clear hBX4
          refine ⟨_, rfl, hK.out _ _ HSX4.out (fun hHeld => ?_)⟩
          clear hK K
          show wpAnyH _ _ _ _ _ _ _ (Act.put _ (some 44) _) _
          simp only [Act.put, List.setIfInBounds_toArray, List.set_cons_zero, List.set_cons_succ]
          refine wpAnyH_ready (rs := [16]) (by kernel_rfl) (by simp) ?_
          refine AllReadyH.cons rfl (fun K hK => ?_) AllReadyH.nil
          refine step_call rfl 19 #[.tmp 45, .tmp 46] #[28, 24] rfl #[.agg #[.string firstText, .string roundText], .agg (w8 s).toArray] (by simp [Act.eval]) (by go_simp) (HRLOCK.out X4 HSX4.out) ?_
          rintro e X5 ⟨rfl, hBX5⟩
          have HSX5 := Lib.hid (HSX4.out.trans (hBX5.mono HSX4.out.size))
          clear hBX5
          refine ⟨_, rfl, hK.out _ _ HSX5.out (fun hHeld => ?_)⟩
          clear hK K
          show wpAnyH _ _ _ _ _ _ _ (Act.put _ (some 47) _) _
          simp only [Act.put, List.setIfInBounds_toArray, List.set_cons_zero, List.set_cons_succ]
          refine wpAnyH_take (i := 17) (v := .bool true) rfl (by kernel_rfl) (by kernel_rfl) (by kernel_rfl) (fun _ _ _ h => h) (Or.inl ⟨by rfl, by intro w hSw; go_simp⟩) hHeld ?_
          show wpAnyH _ _ _ _ _ _ _ (Act.put _ (some 48) _) _
          simp only [Act.put, List.setIfInBounds_toArray, List.set_cons_zero, List.set_cons_succ]
          refine wpAnyH_take (i := 18) (v := .bool true) rfl (by kernel_rfl) (by kernel_rfl) (by kernel_rfl) (fun _ _ _ h => h) (Or.inl ⟨by rfl, by intro w hSw; first | rfl | go_simp⟩) hHeld ?_
          show wpAnyH _ _ _ _ _ _ _ (Act.put _ (some 49) _) _
          simp only [Act.put, List.setIfInBounds_toArray, List.set_cons_zero, List.set_cons_succ]
          refine wpAnyH_take (i := 19) (v := .bool true) rfl (by kernel_rfl) (by kernel_rfl) (by kernel_rfl) (fun _ _ _ h => h) (Or.inl ⟨by rfl, fun w _ => by rfl⟩) hHeld ?_
          show wpAnyH _ _ _ _ _ _ _ (Act.put _ (some 6) _) _
          simp only [Act.put, List.setIfInBounds_toArray, List.set_cons_zero, List.set_cons_succ]
          refine wpAnyH_done (by kernel_rfl) ?_ _
          go_wp2
          go_ret
          exact ⟨rfl, HWB.out.trans (HSX5.out.mono HWB.out.size)⟩
  · have h300' : (300 : Int) < (m : Int) := by omega
    go_enter Tryd.func5, Tryd.ntmps5
    go_wp2_with fail
    generalize W.alloc (.cells (w8 s).toArray 24) = V at HSB HB0 ⊢
    have HT0 := Lib.hid (HT.out.below HB0.out HT.out.lt)
    go_loop [13, 7, 9] (fun i t _ => ∃ (k : Nat) (v : Int), k ≤ m ∧ i = .int .i64 k ∧ t = .int .i64 v) (fun i _ _ => m - (intOf i).toNat)
    case atStart => exact ⟨0, 0, Nat.zero_le _, rfl, rfl⟩
    case round =>
      obtain ⟨k, v, hk, rfl, rfl⟩ := hrel
      by_cases hlt : k < m
      · obtain ⟨g, off, Ai, ci, rfl, hg, hgW, hcell, hci, _, hfl, hlen, _⟩ := HC.out.at_ HB0.out k hlt
        obtain ⟨n, hn⟩ : ∃ n, (ps.getD k []).length = n := ⟨_, rfl⟩
        rw [hn] at hcell hlen
        clear hn hfl
        go_wp2
        go_round
        case rel => exact ⟨k + 1, _, by omega, by go_num, rfl⟩
        case measure => simp [intOf]; omega
      · obtain rfl : k = m := by omega
        by_cases hv : 5000 < v
        · have hvB : decide ((5000 : Int) < v) = true := by simpa using hv
          go_wp2_with fail
          refine (awake_any _ HT0).mono ?_
          rintro e w1 ⟨rfl, h1⟩
          go_wp2
          go_ret
          exact ⟨rfl, HB0.out.trans (h1.mono HB0.out.size)⟩
        · have hvB : decide ((5000 : Int) < v) = false := by simpa using hv
          go_wp2_with fail
          refine (awake_any _ HT0).mono ?_
          rintro e w1 ⟨rfl, h1⟩
          go_wp2
          go_ret
          exact ⟨rfl, HB0.out.trans (h1.mono HB0.out.size)⟩
end Go.Proofs.YtcpjfdaacnkcnaaDoor
