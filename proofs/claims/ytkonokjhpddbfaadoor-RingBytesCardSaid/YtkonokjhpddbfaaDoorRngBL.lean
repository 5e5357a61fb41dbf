/-
  tollhouselaw05.RingBytes (function 11): its walk: true for every signature and bytes; nothing that was there is written.
-/
import Derived.Test.YtkonokjhpddbfaaDoorRngBK
import Derived.Test.YtkonokjhpddbfaaDoorGI
namespace Go.Proofs.YtkonokjhpddbfaaDoor
open Go.RowKit
set_option linter.unusedVariables false

theorem bad_GB (g e : Nat) (l : List Nat) (w : World) (HI : Hid (Oct.InG w g l e)) : Calls Tryd.prog 34 #[.pointer (some ⟨g, 0, none⟩)] w fun r w' => r = .returned (.int .i64 ((e : Nat) : Int)) ∧ Below w.heap.size w w' :=
  (Oct.bad_G g e l w HI).mono (by rintro e w' ⟨rfl, rfl⟩; exact ⟨rfl, Below.refl _ _⟩)
theorem left_GB (g e : Nat) (l : List Nat) (w : World) (HI : Hid (Oct.InG w g l e)) : Calls Tryd.prog 35 #[.pointer (some ⟨g, 0, none⟩)] w fun r w' => r = .returned (.int .i64 ((l.length : Nat) : Int)) ∧ Below w.heap.size w w' :=
  (Oct.left_G g e l w HI).mono (by rintro e w' ⟨rfl, rfl⟩; exact ⟨rfl, Below.refl _ _⟩)
theorem end_GB (g : Nat) (w : World) (HI : Hid (Oct.InG w g [] 0)) : Calls Tryd.prog 38 #[.pointer (some ⟨g, 0, none⟩)] w fun r w' => r = .returned (.int .i64 0) ∧ Below w.heap.size w w' :=
  (Oct.end_any g w (Lib.hid (by have h := HI.out; unfold Oct.InG at h; rw [if_pos rfl] at h; exact h))).mono (by rintro e w' ⟨rfl, rfl⟩; exact ⟨rfl, Below.refl _ _⟩)
theorem step_conv5 {ops : Array Oper} {o : Oper} {a : Act} {w : World} {K : Act → World → Prop} {Q : Exit → Act → World → Prop} {E : Prop} (hw : Region.wanted o (yielded ops a.tmps) = true) (t u : TypeId) (x : Operand) (ho : o.op = .convert t u x)
    (v r : Value) (hv : a.eval x = v) (hr : (convert t u v).run Tryd.prog w = .ok r w) (h : K (a.put o.dst r) w) : if Region.wanted o (yielded ops a.tmps) = true then Oper.wp Tryd.prog o a w K Q else E := by
  rw [if_pos hw]
  have e : (execOp a.eval o).run Tryd.prog w = .ok (.value r) w := by
    unfold execOp
    simp only [ho, hv, Sem.run_bind, hr, Result.andThen_ok, Sem.run_pure]
  unfold Oper.wp
  rw [e]
  exact h
theorem sig94 (S : List Nat) (key : Nat) (v : Value) (h : S.length = 1024) (hv : v.oneCell' = true) : ((Tryd.prog.info? 94).map (·.size) = some (rsg S key v).toArray.size) ∧ Tryd.zeroCells94.size = (rsg S key v).toArray.size ∧ (rsg S key v).toArray.all (·.oneCell') = true := by
  have e : (rsg S key v).toArray.size = 1026 := by rw [List.size_toArray, rsg_length _ _ _ h]
  refine ⟨by rw [e]; exact info94, ?_, all_oneCell_toArray (rsg_one S key _ hv)⟩
  rw [e, ← zc94, List.size_toArray, rsg_length _ _ _ List.length_replicate]
theorem sig99 (S : List Nat) (key : Nat) (v : Value) (h : S.length = 1024) (hv : v.oneCell' = true) : ((Tryd.prog.info? 99).map (·.size) = some (rsg S key v).toArray.size) ∧ Tryd.zeroCells99.size = (rsg S key v).toArray.size ∧ (rsg S key v).toArray.all (·.oneCell') = true := by
  have e : (rsg S key v).toArray.size = 1026 := by rw [List.size_toArray, rsg_length _ _ _ h]
  refine ⟨by rw [e]; exact info99', ?_, all_oneCell_toArray (rsg_one S key _ hv)⟩
  rw [e, ← zc99, List.size_toArray, rsg_length _ _ _ List.length_replicate]

set_option maxRecDepth 100000 in
set_option maxHeartbeats 8000000 in
theorem rbytes_light (S : List Nat) (kk m : Nat) (AY : Option Addr) (cY : Nat) (q : Nat → List Nat) (A : Option Addr) (n c b : Nat) (l : List Nat) (w : World) (HTA : Hid (Tab w)) (HL : Hid (S.length = 1024)) (HP : Hid (∀ x ∈ S, x < 256)) (hk : kk < 4294967296) (HQ : Hid (∀ a, (q a).length = 32)) (HQP : Hid (∀ a, ∀ x ∈ q a, x < 256)) (HY : Hid (WayR w (.slice AY m cY) q m)) (hm : m ≤ 8) (HS : Hid (Src w b A c l)) (hb : b = w.heap.size) (h0 : A = none → c = 0) (hn : l.length = n) (hn5 : n ≤ 5000) (hc : c ≤ 9223372036854775807) (hlt : ∀ x ∈ l, x < 256) :
    Calls Tryd.prog 11 #[.agg (rsg S kk (.slice AY m cY)).toArray, .slice A n c] w fun e w' => e = .returned (.bool true) ∧ Below w.heap.size w w' := by
  have HAS : Hid ((Tryd.prog.info? 99).map (·.size) = some (rsg S kk (.slice AY m cY)).length) := Lib.hid (by rw [rsg_length _ _ _ HL.out]; exact info99')
  have HOC := Lib.hid (HS.out.toOct5 h0)
  have HSM : Hid (∀ gm, w.heap.size ≤ gm → Src w gm A c l ∧ (l ≠ [] → ∀ a, A = some a → a.block < gm)) := Lib.hid fun gm hg => by
    rcases HS.out.at_ with h | ⟨g, off, h, h2, h3, h4⟩
    · exact ⟨⟨HS.out.le, .inl h, HS.out.lt⟩, fun hl => absurd h hl⟩
    · exact ⟨⟨HS.out.le, .inr ⟨g, off, h, h2, by omega, h4⟩, HS.out.lt⟩, fun _ a ha => by rw [h] at ha; injection ha with ha; rw [← ha]; show g < gm; omega⟩
  have HLB := Lib.hid hlt
  have n1 : (n : Int) ≤ 5000 := by omega
  have n0 : (0 : Int) ≤ (n : Int) := Int.natCast_nonneg _
  have d1 : ¬ ((5000 : Int) < (n : Int)) := by omega
  have d2 : ¬ ((8 : Int) < (m : Int)) := by omega
  clear hlt
  go_enter Tryd.func11, Tryd.ntmps11
  go_upto_region 1 with fail
  have S1 : Hid (Blk (w.alloc (.cells (rsg S kk (.slice AY m cY)).toArray 99)) w.heap.size 99 ((rsg S kk (.slice AY m cY)))) := Lib.hid (by
    have h := Blk.new w 99 ((rsg S kk (.slice AY m cY)))
    exact h)
  have B1 : Hid (Below w.heap.size w (w.alloc (.cells (rsg S kk (.slice AY m cY)).toArray 99))) := Lib.hid ((Below.refl _ _).alloc (Nat.le_refl _) _)
  generalize (w.alloc (.cells (rsg S kk (.slice AY m cY)).toArray 99)) = V1 at S1 B1 ⊢
  have C1 := Lib.hid (HOC.out.below B1.out)
  obtain ⟨hs, hhs⟩ : ∃ x, w.heap.size = x := ⟨_, rfl⟩
  have HHS := Lib.hid hhs
  rw [hhs] at S1 ⊢
  clear hhs
  have c1 : V1.cell? ⟨hs, 1025, none⟩ = some (.slice AY m cY) := by rw [S1.out.cell]; exact rsg_way _ _ _ HL.out
  go_wp2_with fail
  refine (Oct.of_any A c n (ints l) V1 C1 (Lib.hid (by rw [ints_length, hn])) (by omega)).mono ?_
  rintro e V2 ⟨gi, rfl, hi, hB, hgi⟩
  have B2 := Lib.hid (B1.out.trans (hB.mono B1.out.size))
  have S2 := Lib.hid (S1.out.below hB S1.out.lt)
  have I2 : Hid (Oct.InG V2 gi l 0) := Lib.hid (by unfold Oct.InG; rw [if_pos rfl]; exact hi)
  have hsgi : hs < gi := by have := S1.out.lt; omega
  clear hi hB B1 S1 C1 c1
  go_upto_region 4 with fail
  have hB : Below V2.heap.size V2 (V2.alloc (.cells #[.slice A n c, .int .i64 0, .int .i64 0] 68)) := (Below.refl _ _).alloc (Nat.le_refl _) _
  have B3 := Lib.hid (B2.out.trans (hB.mono B2.out.size))
  have S3 := Lib.hid (S2.out.below hB S2.out.lt)
  have I3 := Lib.hid (I2.out.below hB)
  have hwm : w.heap.size ≤ V2.heap.size := B2.out.size
  have R3 : Hid (RefG (V2.alloc (.cells #[.slice A n c, .int .i64 0, .int .i64 0] 68)) V2.heap.size A c l 0 0) := Lib.hid ⟨by
    have h := Blk.new V2 68 [.slice A n c, .int .i64 0, .int .i64 0]
    rw [hn]
    exact h, (HSM.out _ hwm).1.below B3.out, hc, (HSM.out _ hwm).2, Nat.zero_le _⟩
  have higm : gi < V2.heap.size := I2.out.lt
  clear hB B2 S2 I2
  generalize V2.alloc (.cells #[.slice A n c, .int .i64 0, .int .i64 0] 68) = V3 at B3 S3 I3 R3 ⊢
  generalize V2.heap.size = gm at R3 higm hwm ⊢
  go_wp2_with fail
  refine (ringtake_any gi l 0 V3 I3 HLB).mono ?_
  rintro e V4 hT4
  obtain ⟨Ax, cx, rfl, hxw, hi4, hg4⟩ := take_uni hT4
  have hwi : w.heap.size ≤ gi := by have := HHS.out; omega
  have B4 := Lib.hid (B3.out.trans (only_up hg4 hwi B3.out.size))
  have S4 := Lib.hid (S3.out.grown hg4 (fun e => by injection e with e; omega))
  have I4 := Lib.hid hi4
  have M4 := Lib.hid (R3.out.blk.grown hg4 (fun e => by injection e with e; omega))
  have R4 : Hid (RefR V4 gm A c l l 0) := Lib.hid ⟨0, ⟨M4.out, (HSM.out _ hwm).1.below B4.out, hc, R3.out.old, Nat.zero_le _⟩, by simp⟩
  have HXF := Lib.hid hxw
  clear hT4 hi4 hg4 hxw B3 S3 I3 R3
  go_wp2_with fail
  refine (reftake_any gm A c l l 0 V4 R4 (by omega)).mono ?_
  rintro e V5 hT5
  obtain ⟨Ay, cy, rfl, hyw, hr5, hg5⟩ := rtake_uni hT5
  have B5 := Lib.hid (B4.out.trans (only_up hg5 hwm B4.out.size))
  have S5 := Lib.hid (S4.out.grown hg5 (fun e => by injection e with e; omega))
  have I5 := Lib.hid (I4.out.far hg5 higm)
  have R5 := Lib.hid hr5
  have HXW := Lib.hid (HXF.out V5 gm 68 _ M4.out (by decide) hg5)
  have HYW := Lib.hid hyw
  have HTS := Lib.hid (uS_length l)
  have HTW := Lib.hid (uW_length l)
  have hTM := uM_le l
  clear hT5 hyw hr5 hg5 B4 S4 I4 R4 M4 HXF
  generalize uS l = TS at HTS ⊢
  generalize uK l = TK at ⊢
  generalize uW l = TW at HXW HYW HTW
  generalize uM l = TM at HXW HYW hTM ⊢
  generalize tkL l = L1 at I5 R5
  generalize tkE l 0 = E1 at I5 R5
  have x1 := sig94 TS TK (.slice Ax TM cx) HTS.out rfl
  have y1 := sig99 TS TK (.slice Ay TM cy) HTS.out rfl
  have HX1 := Lib.hid x1
  have HY1 := Lib.hid y1
  have hA1 : ((V5.alloc (.cells Tryd.zeroCells94 94)).alloc (.cells Tryd.zeroCells99 99)).heap[V5.heap.size]? = some (.cells Tryd.zeroCells94 94 (0, 0)) := by
    have h := heap_alloc2_old V5 (.cells Tryd.zeroCells94 94) (.cells Tryd.zeroCells99 99)
    exact h
  have hA2 : (((V5.alloc (.cells Tryd.zeroCells94 94)).alloc (.cells Tryd.zeroCells99 99)).setRow V5.heap.size (rsg TS TK (.slice Ax TM cx)).toArray).heap[V5.heap.size + 1]? = some (.cells Tryd.zeroCells99 99 (0, 0)) := by
    rw [setRow_other _ _ _ _ (by omega)]
    exact heap_alloc2_new V5 (.cells Tryd.zeroCells94 94) (.cells Tryd.zeroCells99 99)
  have HA1 := Lib.hid hA1
  have HA2 := Lib.hid hA2
  clear hA1 hA2 x1 y1
  go_upto_region 5 with (first | (refine wpList_store_row rfl 94 (.tmp 7) (.tmp 27) rfl V5.heap.size (rsg TS TK (.slice Ax TM cx)).toArray rfl rfl 94 _ HA1.out HX1.out.1 HX1.out.2.1 HX1.out.2.2 ?_) | (refine wpList_store_row rfl 99 (.tmp 8) (.tmp 29) rfl (V5.heap.size + 1) (rsg TS TK (.slice Ay TM cy)).toArray rfl rfl 99 _ HA2.out HY1.out.1 HY1.out.2.1 HY1.out.2.2 ?_))
  have hB : Below V5.heap.size V5 ((((V5.alloc (.cells Tryd.zeroCells94 94)).alloc (.cells Tryd.zeroCells99 99)).setRow V5.heap.size (rsg TS TK (.slice Ax TM cx)).toArray).setRow (V5.heap.size + 1) (rsg TS TK (.slice Ay TM cy)).toArray) := below_setRow (below_setRow (((Below.refl _ _).alloc (Nat.le_refl _) _).alloc (by simp) _) (Nat.le_refl _) _) (by omega) _
  have B6 := Lib.hid (B5.out.trans (hB.mono B5.out.size))
  have W6 := Lib.hid hB
  have S6 := Lib.hid (S5.out.below hB S5.out.lt)
  have I6 := Lib.hid (I5.out.below hB)
  have R6 := Lib.hid (R5.out.below hB)
  have X6 : Hid (Blk ((((V5.alloc (.cells Tryd.zeroCells94 94)).alloc (.cells Tryd.zeroCells99 99)).setRow V5.heap.size (rsg TS TK (.slice Ax TM cx)).toArray).setRow (V5.heap.size + 1) (rsg TS TK (.slice Ay TM cy)).toArray) V5.heap.size 94 (rsg TS TK (.slice Ax TM cx))) := Lib.hid (by
    have h := setRow_heap ((V5.alloc (.cells Tryd.zeroCells94 94)).alloc (.cells Tryd.zeroCells99 99)) V5.heap.size _ (rsg TS TK (.slice Ax TM cx)).toArray _ _ HA1.out
    unfold Blk
    rw [setRow_other _ _ _ _ (by omega)]
    exact h)
  have Y6 : Hid (Blk ((((V5.alloc (.cells Tryd.zeroCells94 94)).alloc (.cells Tryd.zeroCells99 99)).setRow V5.heap.size (rsg TS TK (.slice Ax TM cx)).toArray).setRow (V5.heap.size + 1) (rsg TS TK (.slice Ay TM cy)).toArray) (V5.heap.size + 1) 99 (rsg TS TK (.slice Ay TM cy))) := Lib.hid (setRow_heap _ (V5.heap.size + 1) _ (rsg TS TK (.slice Ay TM cy)).toArray _ _ HA2.out)
  have hgm5 : gm < V5.heap.size := R5.out.lt
  have hV5 : V5.heap.size ≤ V5.heap.size := Nat.le_refl _
  clear HA1 HA2 HX1 HY1 hB B5 S5 I5 R5
  generalize ((((V5.alloc (.cells Tryd.zeroCells94 94)).alloc (.cells Tryd.zeroCells99 99)).setRow V5.heap.size (rsg TS TK (.slice Ax TM cx)).toArray).setRow (V5.heap.size + 1) (rsg TS TK (.slice Ay TM cy)).toArray) = V6 at B6 W6 S6 I6 R6 X6 Y6 ⊢
  obtain ⟨gy, hgy⟩ : ∃ x, V5.heap.size + 1 = x := ⟨_, rfl⟩
  rw [hgy] at Y6 ⊢
  obtain ⟨gx, hgx⟩ : ∃ x, V5.heap.size = x := ⟨_, rfl⟩
  rw [hgx] at X6 hgm5 hgy ⊢
  have HGX := Lib.hid hgx
  clear hgx hV5
  have HAR := Lib.hid S6.out.all
  go_wp2_with (first | (refine wpList_load_mid rfl 99 (.tmp 2) rfl hs 0 rfl (rsg S kk (.slice AY m cY)) _ HAR.out Tryd.underlying99 rfl HAS.out ?_))
  refine (rto5_any S kk m AY cY q V6 HL HQ (Lib.hid (HY.out.below B6.out)) (by omega)).mono ?_
  rintro e V7 ⟨v7, rfl, hw7, ⟨A7, c7, rfl, hmc7, hcc7⟩, hB⟩
  have Z7 := Lib.hid hw7
  have B7 := Lib.hid (B6.out.trans (hB.mono B6.out.size))
  have W7 := Lib.hid (W6.out.trans (hB.mono W6.out.size))
  have S7 := Lib.hid (S6.out.below hB S6.out.lt)
  have I7 := Lib.hid (I6.out.below hB)
  have R7 := Lib.hid (R6.out.below hB)
  have X7 := Lib.hid (X6.out.below hB X6.out.lt)
  have Y7 := Lib.hid (Y6.out.below hB Y6.out.lt)
  clear hw7 hB HAR B6 W6 S6 I6 R6 X6 Y6
  go_wp2_with fail
  have hB : Below V7.heap.size V7 (V7.alloc (.cells #[.int .u8 7] 5)) := (Below.refl _ _).alloc (Nat.le_refl _) _
  have B8 := Lib.hid (B7.out.trans (hB.mono B7.out.size))
  have W8 := Lib.hid (W7.out.trans (hB.mono W7.out.size))
  have S8 := Lib.hid (S7.out.below hB S7.out.lt)
  have I8 := Lib.hid (I7.out.below hB)
  have R8 := Lib.hid (R7.out.below hB)
  have X8 := Lib.hid (X7.out.below hB X7.out.lt)
  have Y8 := Lib.hid (Y7.out.below hB Y7.out.lt)
  have Z8 := Lib.hid (Z7.out.below hB)
  have hgy7 : gy < V7.heap.size := Y7.out.lt
  have O8 : Hid (Oct.Own (V7.alloc (.cells #[.int .u8 7] 5)) V7.heap.size (.slice (some ⟨V7.heap.size, 0, none⟩) 1 1) (ints [7])) := Lib.hid ⟨by simp [Oct.byt, ints], .inr ⟨V7.heap.size, 1, #[.int .u8 7], rfl, Nat.le_refl _, heap_alloc_last V7 _, Nat.le_refl _, by unfold maxLen; omega, rfl, rfl⟩⟩
  clear hB B7 W7 S7 I7 R7 X7 Y7 Z7
  generalize hV8 : V7.alloc (.cells #[.int .u8 7] 5) = V8 at B8 W8 S8 I8 R8 X8 Y8 Z8 O8 ⊢
  have hV8s : V7.heap.size < V8.heap.size := by rw [← hV8]; simp
  clear hV8
  generalize V7.heap.size = g7 at O8 hgy7 hV8s ⊢
  refine (ringlay_any S kk m A7 c7 q _ g7 [7] V8 HL HP hk hm HQ HQP Z8 O8 (Nat.le_of_lt hV8s) (by simp)).mono ?_
  rintro e V9 ⟨v9, rfl, hO9, hg9, hL9⟩
  have hgmx : gm < gx := hgm5
  have hw7 : w.heap.size ≤ g7 := by omega
  have hx7 : V5.heap.size ≤ g7 := by have := HGX.out; omega
  have hg9 : V8.grownBy V9 (some g7) := hg9
  have B9 := Lib.hid (B8.out.grown hg9 B8.out.size (fun k hk => by simp at hk; omega))
  have W9 := Lib.hid (W8.out.grown hg9 W8.out.size (fun k hk => by simp at hk; omega))
  have hne9 : ∀ k, k < g7 → some k ≠ (Value.slice (some ⟨g7, 0, none⟩) 1 1).ownBlock := fun k hk he => by simp [Value.ownBlock] at he; omega
  have S9 := Lib.hid (S8.out.grown hg9 (hne9 _ (by omega)))
  have I9 := Lib.hid (I8.out.far hg9 (by omega))
  have R9 := Lib.hid (R8.out.far hg9 (by omega))
  have X9 := Lib.hid (X8.out.grown hg9 (hne9 _ (by omega)))
  have Y9 := Lib.hid (Y8.out.grown hg9 (hne9 _ (by omega)))
  clear hg9 hL9 hne9 B8 W8 S8 I8 R8 X8 Y8 O8 Z8
  have hLL := rlayN_length S kk q m HL.out HQ.out
  obtain ⟨N, hN⟩ : ∃ N, 1029 + 32 * m = N := ⟨_, rfl⟩
  rw [hN] at hLL
  have hN9 : N ≤ 1285 := by omega
  have hlen : (ints ([7] ++ (rlayN S kk q m))).length = N + 1 := by rw [ints_length, List.length_append, hLL]; simp; omega
  obtain ⟨A9, c9, hv9, hs9⟩ := hO9.src
  rw [hlen] at hv9
  obtain ⟨gp, cp, hvp, hgp7, hcp, hcpm, hpl⟩ : ∃ gp cp, v9 = .slice (some ⟨gp, 0, none⟩) (N + 1) cp ∧ g7 ≤ gp ∧ N + 1 ≤ cp ∧ cp ≤ maxLen ∧ gp < V9.heap.size := by
    rcases hO9.2 with ⟨_, h⟩ | ⟨g, cap, cur, hv, hg, hgb, hn, hm, _⟩
    · rw [hlen] at h; cases h
    · rw [hlen] at hv hn
      exact ⟨g, cap, hv, hg, hn, hm, (Array.getElem?_eq_some_iff.1 hgb).1⟩
  rw [hvp] at hv9
  injection hv9 with e1 e2 e3
  subst e1 e3 hvp
  have P9 : Hid (Oct.Src V9 (some ⟨gp, 0, none⟩) cp (ints ([7] ++ (rlayN S kk q m)))) := Lib.hid hs9
  have Q9 : Hid (Oct.Src V9 (some ⟨gp, 0 + 1, none⟩) (cp - 1) (ints (rlayN S kk q m))) := Lib.hid (by
    refine ⟨fun h => (by cases h), .inr ⟨gp, 0 + 1, rfl, hpl, fun i hi => ?_⟩⟩
    rcases hs9.2 with h | ⟨b', off, h, _, hx⟩
    · rw [h] at hlen; cases hlen
    · injection h with h
      injection h with h1 h2
      subst h1 h2
      rw [ints_length] at hi
      have := hx (1 + i) (by rw [hlen]; omega)
      rw [Nat.add_assoc, this]
      simp [ints, List.getD, Nat.add_comm 1 i])
  have hcut := fun W => cutHi72 gp 0 (N + 1) cp 1 (by omega) (by omega) hcp W
  rw [show ((1 : Nat) : Int) = 1 from rfl, show N + 1 - 1 = N from rfl] at hcut
  have hcpm2 : cp ≤ 9223372036854775807 := by unfold maxLen at hcpm; exact hcpm
  have HLL := Lib.hid hLL
  have HLEN := Lib.hid hlen
  have nn1 : (1 : Int) ≤ (N : Int) + 1 := by omega
  have nn2 : min (1 : Int) ((N : Int) + 1) = 1 := by omega
  clear hs9 hO9 hlen hcpm e2 hLL hN
  go_wp2_with fail
  refine (Oct.of_any (some ⟨gp, 0 + 1, none⟩) (cp - 1) N (ints (rlayN S kk q m)) V9 Q9 (Lib.hid (by rw [ints_length, HLL.out])) (by omega)).mono ?_
  rintro e V ⟨gk, rfl, hik, hB, hgk⟩
  have BV := Lib.hid (B9.out.trans (hB.mono B9.out.size))
  have WV := Lib.hid (W9.out.trans (hB.mono W9.out.size))
  have SV := Lib.hid (S9.out.below hB S9.out.lt)
  have IV := Lib.hid (I9.out.below hB)
  have RV := Lib.hid (R9.out.below hB)
  have XV := Lib.hid (X9.out.below hB X9.out.lt)
  have YV := Lib.hid (Y9.out.below hB Y9.out.lt)
  have PV := Lib.hid (P9.out.below hB)
  have KV : Hid (Oct.InG V gk (rlayN S kk q m) 0) := Lib.hid (by unfold Oct.InG; rw [if_pos rfl]; exact hik)
  have hgpk : gp < gk := by omega
  have hwk : w.heap.size ≤ gk := Nat.le_trans B9.out.size hgk
  have hwk5 : V5.heap.size ≤ gk := by omega
  have hord : hs < gk ∧ gx < gk ∧ gy < gk := ⟨by omega, by omega, by omega⟩
  clear hik hB hgk hcut nn1 nn2 B9 W9 S9 I9 R9 X9 Y9 P9 Q9
  have HLEN8 : Hid (([7] ++ (rlayN S kk q m)).length = N + 1) := Lib.hid (by have := HLEN.out; rw [ints_length] at this; exact this)
  have HRL : Hid (∀ x ∈ (rlayN S kk q m), x < 256) := Lib.hid (rlayN_lt S kk q m HP.out hk (by omega) HQP.out)
  have HLT : Hid (∀ x ∈ [7] ++ (rlayN S kk q m), x < 256) := Lib.hid (by
    intro x hx
    rcases List.mem_append.1 hx with hx | hx
    · simp at hx; omega
    · exact HRL.out x hx)
  obtain ⟨at5, hrg, hr1⟩ := id RV.out
  have MV := Lib.hid hrg.blk
  have hord2 : gm < gk := by omega
  clear hrg hr1
  go_upto_region 7 with fail
  have hBz : Below V.heap.size V V.drew := below_drewN (Below.refl _ _) 1
  have BX0 : Hid (Below w.heap.size w V.drew) := Lib.hid (BV.out.trans (hBz.mono BV.out.size))
  have WX0 : Hid (Below V5.heap.size V5 V.drew) := Lib.hid (WV.out.trans (hBz.mono WV.out.size))
  have XX0 : Hid (Blk V.drew gx 94 (rsg TS TK (.slice Ax TM cx))) := Lib.hid (XV.out.below hBz XV.out.lt)
  have YX0 : Hid (Blk V.drew gy 99 (rsg TS TK (.slice Ay TM cy))) := Lib.hid (YV.out.below hBz YV.out.lt)
  have SX0 : Hid (Blk V.drew hs 99 (rsg S kk (.slice AY m cY))) := Lib.hid (SV.out.below hBz SV.out.lt)
  have MX0 : Hid (Blk V.drew gm 68 [.slice A l.length c, .int .i64 ((at5 : Nat) : Int), .int .i64 ((E1 : Nat) : Int)]) := Lib.hid (MV.out.below hBz MV.out.lt)
  have PX0 : Hid (Oct.Src V.drew (some ⟨gp, 0, none⟩) cp (ints ([7] ++ (rlayN S kk q m)))) := Lib.hid (PV.out.below hBz)
  have IX0 : Hid (Oct.InG V.drew gi L1 E1) := Lib.hid (IV.out.below hBz)
  have RX0 : Hid (RefR V.drew gm A c l L1 E1) := Lib.hid (RV.out.below hBz)
  have KX0 : Hid (Oct.InG V.drew gk (rlayN S kk q m) 0) := Lib.hid (KV.out.below hBz)
  clear hBz
  refine wp_region_held_drew (S := fun w' => Blk w' gx 94 (rsg TS TK (.slice Ax TM cx)) ∧ Blk w' gy 99 (rsg TS TK (.slice Ay TM cy)) ∧ Blk w' hs 99 (rsg S kk (.slice AY m cY)) ∧ Blk w' gm 68 [.slice A l.length c, .int .i64 ((at5 : Nat) : Int), .int .i64 ((E1 : Nat) : Int)] ∧ Oct.Src w' (some ⟨gp, 0, none⟩) cp (ints ([7] ++ (rlayN S kk q m)))) (by kernel_rfl) (⟨XX0.out, YX0.out, SX0.out, MX0.out, PX0.out⟩) (fun hHeld => ?_)
  generalize V.drew = X0 at hHeld BX0 WX0 XX0 YX0 SX0 MX0 PX0 IX0 RX0 KX0 ⊢
  refine wpAnyH_ready (rs := [0]) (by kernel_rfl) (by simp) ?_
  refine AllReadyH.cons rfl (fun K hK => ?_) AllReadyH.nil
  refine step_call rfl 42 #[] #[] rfl #[] (by simp) (by go_simp) (awake5_any X0 (Lib.hid (HTA.out.below BX0.out HTA.out.lt))) ?_
  rintro e X1 ⟨rfl, hB⟩
  have BX1 : Hid (Below w.heap.size w X1) := Lib.hid (BX0.out.trans (hB.mono BX0.out.size))
  have WX1 : Hid (Below V5.heap.size V5 X1) := Lib.hid (WX0.out.trans (hB.mono WX0.out.size))
  have XX1 : Hid (Blk X1 gx 94 (rsg TS TK (.slice Ax TM cx))) := Lib.hid (XX0.out.below hB XX0.out.lt)
  have YX1 : Hid (Blk X1 gy 99 (rsg TS TK (.slice Ay TM cy))) := Lib.hid (YX0.out.below hB YX0.out.lt)
  have SX1 : Hid (Blk X1 hs 99 (rsg S kk (.slice AY m cY))) := Lib.hid (SX0.out.below hB SX0.out.lt)
  have MX1 : Hid (Blk X1 gm 68 [.slice A l.length c, .int .i64 ((at5 : Nat) : Int), .int .i64 ((E1 : Nat) : Int)]) := Lib.hid (MX0.out.below hB MX0.out.lt)
  have PX1 : Hid (Oct.Src X1 (some ⟨gp, 0, none⟩) cp (ints ([7] ++ (rlayN S kk q m)))) := Lib.hid (PX0.out.below hB)
  have IX1 : Hid (Oct.InG X1 gi L1 E1) := Lib.hid (IX0.out.below hB)
  have RX1 : Hid (RefR X1 gm A c l L1 E1) := Lib.hid (RX0.out.below hB)
  have KX1 : Hid (Oct.InG X1 gk (rlayN S kk q m) 0) := Lib.hid (KX0.out.below hB)
  clear BX0 WX0 XX0 YX0 SX0 MX0 PX0 IX0 RX0 KX0 hB
  refine ⟨_, rfl, hK.out _ _ (⟨XX1.out, YX1.out, SX1.out, MX1.out, PX1.out⟩) (fun hHeld => ?_)⟩
  clear hK K
  show wpAnyH _ _ _ _ _ _ _ (Act.put _ (some 40) _) _
  simp only [Act.put, List.setIfInBounds_toArray, List.set_cons_zero, List.set_cons_succ]
  refine wpAnyH_take (i := 1) (v := .bool true) rfl (by kernel_rfl) (by kernel_rfl) (by kernel_rfl) (fun _ _ _ h => h) (Or.inl ⟨by rfl, fun w _ => by rfl⟩) hHeld ?_
  show wpAnyH _ _ _ _ _ _ _ (Act.put _ (some 41) _) _
  simp only [Act.put, List.setIfInBounds_toArray, List.set_cons_zero, List.set_cons_succ]
  refine wpAnyH_take (i := 2) (v := .agg (rsg TS TK (.slice Ax TM cx)).toArray) rfl (by kernel_rfl) (by kernel_rfl) (by kernel_rfl) (fun _ _ _ h => h) (yieldsIf_load_mid rfl 94 (.tmp 7) rfl gx 0 rfl (rsg TS TK (.slice Ax TM cx)) _ (fun w' hS => hS.1.all) Tryd.underlying94 rfl (by rw [rsg_length _ _ _ HTS.out]; exact info94)) hHeld ?_
  show wpAnyH _ _ _ _ _ _ _ (Act.put _ (some 42) _) _
  simp only [Act.put, List.setIfInBounds_toArray, List.set_cons_zero, List.set_cons_succ]
  refine wpAnyH_take (i := 4) (v := .agg (rsg TS TK (.slice Ay TM cy)).toArray) rfl (by kernel_rfl) (by kernel_rfl) (by kernel_rfl) (fun _ _ _ h => h) (yieldsIf_load_mid rfl 99 (.tmp 8) rfl gy 0 rfl (rsg TS TK (.slice Ay TM cy)) _ (fun w' hS => hS.2.1.all) Tryd.underlying99 rfl (by rw [rsg_length _ _ _ HTS.out]; exact info99')) hHeld ?_
  show wpAnyH _ _ _ _ _ _ _ (Act.put _ (some 44) _) _
  simp only [Act.put, List.setIfInBounds_toArray, List.set_cons_zero, List.set_cons_succ]
  refine wpAnyH_ready (rs := [3]) (by kernel_rfl) (by simp) ?_
  refine AllReadyH.cons rfl (fun K hK => ?_) AllReadyH.nil
  refine step_call rfl 53 #[.tmp 42] #[94] rfl #[.agg (rsg TS TK (.slice Ax TM cx)).toArray] (by simp [Act.eval]) (by go_simp) (rfrom5_any TS TK TM Ax cx TW X1 HTS HTW (Lib.hid (HXW.out.below WX1.out)) (by omega)) ?_
  rintro e X2 ⟨vf, rfl, hwf, hB⟩
  have BX2 : Hid (Below w.heap.size w X2) := Lib.hid (BX1.out.trans (hB.mono BX1.out.size))
  have WX2 : Hid (Below V5.heap.size V5 X2) := Lib.hid (WX1.out.trans (hB.mono WX1.out.size))
  have XX2 : Hid (Blk X2 gx 94 (rsg TS TK (.slice Ax TM cx))) := Lib.hid (XX1.out.below hB XX1.out.lt)
  have YX2 : Hid (Blk X2 gy 99 (rsg TS TK (.slice Ay TM cy))) := Lib.hid (YX1.out.below hB YX1.out.lt)
  have SX2 : Hid (Blk X2 hs 99 (rsg S kk (.slice AY m cY))) := Lib.hid (SX1.out.below hB SX1.out.lt)
  have MX2 : Hid (Blk X2 gm 68 [.slice A l.length c, .int .i64 ((at5 : Nat) : Int), .int .i64 ((E1 : Nat) : Int)]) := Lib.hid (MX1.out.below hB MX1.out.lt)
  have PX2 : Hid (Oct.Src X2 (some ⟨gp, 0, none⟩) cp (ints ([7] ++ (rlayN S kk q m)))) := Lib.hid (PX1.out.below hB)
  have IX2 : Hid (Oct.InG X2 gi L1 E1) := Lib.hid (IX1.out.below hB)
  have RX2 : Hid (RefR X2 gm A c l L1 E1) := Lib.hid (RX1.out.below hB)
  have KX2 : Hid (Oct.InG X2 gk (rlayN S kk q m) 0) := Lib.hid (KX1.out.below hB)
  have FX2 : Hid (WayR X2 vf TW TM) := Lib.hid (hwf)
  clear BX1 WX1 XX1 YX1 SX1 MX1 PX1 IX1 RX1 KX1 hB hwf
  refine ⟨_, rfl, hK.out _ _ (⟨XX2.out, YX2.out, SX2.out, MX2.out, PX2.out⟩) (fun hHeld => ?_)⟩
  clear hK K
  show wpAnyH _ _ _ _ _ _ _ (Act.put _ (some 43) _) _
  simp only [Act.put, List.setIfInBounds_toArray, List.set_cons_zero, List.set_cons_succ]
  refine wpAnyH_ready (rs := [5]) (by kernel_rfl) (by simp) ?_
  refine AllReadyH.cons rfl (fun K hK => ?_) AllReadyH.nil
  refine step_call rfl 52 #[.tmp 43, .tmp 44] #[99, 99] rfl #[.agg (rsg TS TK vf).toArray, .agg (rsg TS TK (.slice Ay TM cy)).toArray] (by simp [Act.eval]) (by go_simp) (same_eq TS TK TM vf (.slice Ay TM cy) TW X2 HTS HTW FX2 (Lib.hid (HYW.out.below WX2.out)) (by omega)) ?_
  rintro e X3 ⟨rfl, hB⟩
  have BX3 : Hid (Below w.heap.size w X3) := Lib.hid (BX2.out.trans (hB.mono BX2.out.size))
  have WX3 : Hid (Below V5.heap.size V5 X3) := Lib.hid (WX2.out.trans (hB.mono WX2.out.size))
  have XX3 : Hid (Blk X3 gx 94 (rsg TS TK (.slice Ax TM cx))) := Lib.hid (XX2.out.below hB XX2.out.lt)
  have YX3 : Hid (Blk X3 gy 99 (rsg TS TK (.slice Ay TM cy))) := Lib.hid (YX2.out.below hB YX2.out.lt)
  have SX3 : Hid (Blk X3 hs 99 (rsg S kk (.slice AY m cY))) := Lib.hid (SX2.out.below hB SX2.out.lt)
  have MX3 : Hid (Blk X3 gm 68 [.slice A l.length c, .int .i64 ((at5 : Nat) : Int), .int .i64 ((E1 : Nat) : Int)]) := Lib.hid (MX2.out.below hB MX2.out.lt)
  have PX3 : Hid (Oct.Src X3 (some ⟨gp, 0, none⟩) cp (ints ([7] ++ (rlayN S kk q m)))) := Lib.hid (PX2.out.below hB)
  have IX3 : Hid (Oct.InG X3 gi L1 E1) := Lib.hid (IX2.out.below hB)
  have RX3 : Hid (RefR X3 gm A c l L1 E1) := Lib.hid (RX2.out.below hB)
  have KX3 : Hid (Oct.InG X3 gk (rlayN S kk q m) 0) := Lib.hid (KX2.out.below hB)
  clear BX2 WX2 XX2 YX2 SX2 MX2 PX2 IX2 RX2 KX2 hB
  refine ⟨_, rfl, hK.out _ _ (⟨XX3.out, YX3.out, SX3.out, MX3.out, PX3.out⟩) (fun hHeld => ?_)⟩
  clear hK K
  show wpAnyH _ _ _ _ _ _ _ (Act.put _ (some 45) _) _
  simp only [Act.put, List.setIfInBounds_toArray, List.set_cons_zero, List.set_cons_succ]
  refine wpAnyH_take (i := 6) (v := .bool true) rfl (by kernel_rfl) (by kernel_rfl) (by kernel_rfl) (fun _ _ _ h => h) (Or.inl ⟨by rfl, by intro w hSw; first | rfl | go_simp⟩) hHeld ?_
  show wpAnyH _ _ _ _ _ _ _ (Act.put _ (some 46) _) _
  simp only [Act.put, List.setIfInBounds_toArray, List.set_cons_zero, List.set_cons_succ]
  refine wpAnyH_take (i := 7) (v := .bool true) rfl (by kernel_rfl) (by kernel_rfl) (by kernel_rfl) (fun _ _ _ h => h) (Or.inl ⟨by rfl, fun w _ => by rfl⟩) hHeld ?_
  show wpAnyH _ _ _ _ _ _ _ (Act.put _ (some 47) _) _
  simp only [Act.put, List.setIfInBounds_toArray, List.set_cons_zero, List.set_cons_succ]
  refine wpAnyH_take (i := 8) (v := .pointer (some ⟨gi, 0, none⟩)) rfl (by kernel_rfl) (by kernel_rfl) (by kernel_rfl) (fun _ _ _ h => h) (Or.inl ⟨by rfl, fun w _ => by rfl⟩) hHeld ?_
  show wpAnyH _ _ _ _ _ _ _ (Act.put _ (some 48) _) _
  simp only [Act.put, List.setIfInBounds_toArray, List.set_cons_zero, List.set_cons_succ]
  refine wpAnyH_take (i := 10) (v := .pointer (some ⟨gm, 0, none⟩)) rfl (by kernel_rfl) (by kernel_rfl) (by kernel_rfl) (fun _ _ _ h => h) (Or.inl ⟨by rfl, fun w _ => by rfl⟩) hHeld ?_
  show wpAnyH _ _ _ _ _ _ _ (Act.put _ (some 50) _) _
  simp only [Act.put, List.setIfInBounds_toArray, List.set_cons_zero, List.set_cons_succ]
  refine wpAnyH_take (i := 11) (v := .pointer (some ⟨gm, 0, none⟩)) rfl (by kernel_rfl) (by kernel_rfl) (by kernel_rfl) (fun _ _ _ h => h) (Or.inl ⟨by rfl, by intro w' h; go_simp⟩) hHeld ?_
  show wpAnyH _ _ _ _ _ _ _ (Act.put _ (some 51) _) _
  simp only [Act.put, List.setIfInBounds_toArray, List.set_cons_zero, List.set_cons_succ]
  refine wpAnyH_take (i := 12) (v := .pointer (some ⟨gm, 2, none⟩)) rfl (by kernel_rfl) (by kernel_rfl) (by kernel_rfl) (fun _ _ _ h => h) (Or.inl ⟨by rfl, by intro w' h; go_simp⟩) hHeld ?_
  show wpAnyH _ _ _ _ _ _ _ (Act.put _ (some 52) _) _
  simp only [Act.put, List.setIfInBounds_toArray, List.set_cons_zero, List.set_cons_succ]
  refine wpAnyH_take (i := 13) (v := .int .i64 ((E1 : Nat) : Int)) rfl (by kernel_rfl) (by kernel_rfl) (by kernel_rfl) (fun _ _ _ h => h) (Or.inl ⟨by rfl, by intro w' hS; have k0 := Blk.cell hS.2.2.2.1 2; simp only [List.getElem?_cons_zero, List.getElem?_cons_succ] at k0; go_simp⟩) hHeld ?_
  show wpAnyH _ _ _ _ _ _ _ (Act.put _ (some 53) _) _
  simp only [Act.put, List.setIfInBounds_toArray, List.set_cons_zero, List.set_cons_succ]
  refine wpAnyH_ready (rs := [9]) (by kernel_rfl) (by simp) ?_
  refine AllReadyH.cons rfl (fun K hK => ?_) AllReadyH.nil
  refine step_call rfl 34 #[.tmp 48] #[64] rfl #[.pointer (some ⟨gi, 0, none⟩)] (by simp [Act.eval]) (by go_simp) (bad_GB gi E1 L1 X3 IX3) ?_
  rintro e X4 ⟨rfl, hB⟩
  have BX4 : Hid (Below w.heap.size w X4) := Lib.hid (BX3.out.trans (hB.mono BX3.out.size))
  have WX4 : Hid (Below V5.heap.size V5 X4) := Lib.hid (WX3.out.trans (hB.mono WX3.out.size))
  have XX4 : Hid (Blk X4 gx 94 (rsg TS TK (.slice Ax TM cx))) := Lib.hid (XX3.out.below hB XX3.out.lt)
  have YX4 : Hid (Blk X4 gy 99 (rsg TS TK (.slice Ay TM cy))) := Lib.hid (YX3.out.below hB YX3.out.lt)
  have SX4 : Hid (Blk X4 hs 99 (rsg S kk (.slice AY m cY))) := Lib.hid (SX3.out.below hB SX3.out.lt)
  have MX4 : Hid (Blk X4 gm 68 [.slice A l.length c, .int .i64 ((at5 : Nat) : Int), .int .i64 ((E1 : Nat) : Int)]) := Lib.hid (MX3.out.below hB MX3.out.lt)
  have PX4 : Hid (Oct.Src X4 (some ⟨gp, 0, none⟩) cp (ints ([7] ++ (rlayN S kk q m)))) := Lib.hid (PX3.out.below hB)
  have IX4 : Hid (Oct.InG X4 gi L1 E1) := Lib.hid (IX3.out.below hB)
  have RX4 : Hid (RefR X4 gm A c l L1 E1) := Lib.hid (RX3.out.below hB)
  have KX4 : Hid (Oct.InG X4 gk (rlayN S kk q m) 0) := Lib.hid (KX3.out.below hB)
  clear BX3 WX3 XX3 YX3 SX3 MX3 PX3 IX3 RX3 KX3 hB
  refine ⟨_, rfl, hK.out _ _ (⟨XX4.out, YX4.out, SX4.out, MX4.out, PX4.out⟩) (fun hHeld => ?_)⟩
  clear hK K
  show wpAnyH _ _ _ _ _ _ _ (Act.put _ (some 49) _) _
  simp only [Act.put, List.setIfInBounds_toArray, List.set_cons_zero, List.set_cons_succ]
  refine wpAnyH_take (i := 14) (v := .bool true) rfl (by kernel_rfl) (by kernel_rfl) (by kernel_rfl) (fun _ _ _ h => h) (Or.inl ⟨by rfl, by intro w' h; go_simp⟩) hHeld ?_
  show wpAnyH _ _ _ _ _ _ _ (Act.put _ (some 54) _) _
  simp only [Act.put, List.setIfInBounds_toArray, List.set_cons_zero, List.set_cons_succ]
  refine wpAnyH_take (i := 15) (v := .bool true) rfl (by kernel_rfl) (by kernel_rfl) (by kernel_rfl) (fun _ _ _ h => h) (Or.inl ⟨by rfl, by intro w hSw; first | rfl | go_simp⟩) hHeld ?_
  show wpAnyH _ _ _ _ _ _ _ (Act.put _ (some 55) _) _
  simp only [Act.put, List.setIfInBounds_toArray, List.set_cons_zero, List.set_cons_succ]
  refine wpAnyH_take (i := 16) (v := .bool true) rfl (by kernel_rfl) (by kernel_rfl) (by kernel_rfl) (fun _ _ _ h => h) (Or.inl ⟨by rfl, fun w _ => by rfl⟩) hHeld ?_
  show wpAnyH _ _ _ _ _ _ _ (Act.put _ (some 56) _) _
  simp only [Act.put, List.setIfInBounds_toArray, List.set_cons_zero, List.set_cons_succ]
  refine wpAnyH_take (i := 17) (v := .pointer (some ⟨gi, 0, none⟩)) rfl (by kernel_rfl) (by kernel_rfl) (by kernel_rfl) (fun _ _ _ h => h) (Or.inl ⟨by rfl, fun w _ => by rfl⟩) hHeld ?_
  show wpAnyH _ _ _ _ _ _ _ (Act.put _ (some 57) _) _
  simp only [Act.put, List.setIfInBounds_toArray, List.set_cons_zero, List.set_cons_succ]
  refine wpAnyH_take (i := 19) (v := .pointer (some ⟨gm, 0, none⟩)) rfl (by kernel_rfl) (by kernel_rfl) (by kernel_rfl) (fun _ _ _ h => h) (Or.inl ⟨by rfl, fun w _ => by rfl⟩) hHeld ?_
  show wpAnyH _ _ _ _ _ _ _ (Act.put _ (some 59) _) _
  simp only [Act.put, List.setIfInBounds_toArray, List.set_cons_zero, List.set_cons_succ]
  refine wpAnyH_ready (rs := [18]) (by kernel_rfl) (by simp) ?_
  refine AllReadyH.cons rfl (fun K hK => ?_) AllReadyH.nil
  refine step_call rfl 35 #[.tmp 57] #[64] rfl #[.pointer (some ⟨gi, 0, none⟩)] (by simp [Act.eval]) (by go_simp) (left_GB gi E1 L1 X4 IX4) ?_
  rintro e X5 ⟨rfl, hB⟩
  have BX5 : Hid (Below w.heap.size w X5) := Lib.hid (BX4.out.trans (hB.mono BX4.out.size))
  have WX5 : Hid (Below V5.heap.size V5 X5) := Lib.hid (WX4.out.trans (hB.mono WX4.out.size))
  have XX5 : Hid (Blk X5 gx 94 (rsg TS TK (.slice Ax TM cx))) := Lib.hid (XX4.out.below hB XX4.out.lt)
  have YX5 : Hid (Blk X5 gy 99 (rsg TS TK (.slice Ay TM cy))) := Lib.hid (YX4.out.below hB YX4.out.lt)
  have SX5 : Hid (Blk X5 hs 99 (rsg S kk (.slice AY m cY))) := Lib.hid (SX4.out.below hB SX4.out.lt)
  have MX5 : Hid (Blk X5 gm 68 [.slice A l.length c, .int .i64 ((at5 : Nat) : Int), .int .i64 ((E1 : Nat) : Int)]) := Lib.hid (MX4.out.below hB MX4.out.lt)
  have PX5 : Hid (Oct.Src X5 (some ⟨gp, 0, none⟩) cp (ints ([7] ++ (rlayN S kk q m)))) := Lib.hid (PX4.out.below hB)
  have IX5 : Hid (Oct.InG X5 gi L1 E1) := Lib.hid (IX4.out.below hB)
  have RX5 : Hid (RefR X5 gm A c l L1 E1) := Lib.hid (RX4.out.below hB)
  have KX5 : Hid (Oct.InG X5 gk (rlayN S kk q m) 0) := Lib.hid (KX4.out.below hB)
  clear BX4 WX4 XX4 YX4 SX4 MX4 PX4 IX4 RX4 KX4 hB
  refine ⟨_, rfl, hK.out _ _ (⟨XX5.out, YX5.out, SX5.out, MX5.out, PX5.out⟩) (fun hHeld => ?_)⟩
  clear hK K
  show wpAnyH _ _ _ _ _ _ _ (Act.put _ (some 58) _) _
  simp only [Act.put, List.setIfInBounds_toArray, List.set_cons_zero, List.set_cons_succ]
  refine wpAnyH_ready (rs := [20]) (by kernel_rfl) (by simp) ?_
  refine AllReadyH.cons rfl (fun K hK => ?_) AllReadyH.nil
  refine step_call rfl 36 #[.tmp 59] #[66] rfl #[.pointer (some ⟨gm, 0, none⟩)] (by simp [Act.eval]) (by go_simp) (refleft_R gm A c l L1 E1 X5 RX5 (by omega)) ?_
  rintro e X6 ⟨rfl, hB⟩
  have BX6 : Hid (Below w.heap.size w X6) := Lib.hid (BX5.out.trans (hB.mono BX5.out.size))
  have WX6 : Hid (Below V5.heap.size V5 X6) := Lib.hid (WX5.out.trans (hB.mono WX5.out.size))
  have XX6 : Hid (Blk X6 gx 94 (rsg TS TK (.slice Ax TM cx))) := Lib.hid (XX5.out.below hB XX5.out.lt)
  have YX6 : Hid (Blk X6 gy 99 (rsg TS TK (.slice Ay TM cy))) := Lib.hid (YX5.out.below hB YX5.out.lt)
  have SX6 : Hid (Blk X6 hs 99 (rsg S kk (.slice AY m cY))) := Lib.hid (SX5.out.below hB SX5.out.lt)
  have MX6 : Hid (Blk X6 gm 68 [.slice A l.length c, .int .i64 ((at5 : Nat) : Int), .int .i64 ((E1 : Nat) : Int)]) := Lib.hid (MX5.out.below hB MX5.out.lt)
  have PX6 : Hid (Oct.Src X6 (some ⟨gp, 0, none⟩) cp (ints ([7] ++ (rlayN S kk q m)))) := Lib.hid (PX5.out.below hB)
  have IX6 : Hid (Oct.InG X6 gi L1 E1) := Lib.hid (IX5.out.below hB)
  have RX6 : Hid (RefR X6 gm A c l L1 E1) := Lib.hid (RX5.out.below hB)
  have KX6 : Hid (Oct.InG X6 gk (rlayN S kk q m) 0) := Lib.hid (KX5.out.below hB)
  clear BX5 WX5 XX5 YX5 SX5 MX5 PX5 IX5 RX5 KX5 hB
  refine ⟨_, rfl, hK.out _ _ (⟨XX6.out, YX6.out, SX6.out, MX6.out, PX6.out⟩) (fun hHeld => ?_)⟩
  clear hK K
  show wpAnyH _ _ _ _ _ _ _ (Act.put _ (some 60) _) _
  simp only [Act.put, List.setIfInBounds_toArray, List.set_cons_zero, List.set_cons_succ]
  refine wpAnyH_take (i := 21) (v := .bool true) rfl (by kernel_rfl) (by kernel_rfl) (by kernel_rfl) (fun _ _ _ h => h) (Or.inl ⟨by rfl, by intro w' h; go_simp⟩) hHeld ?_
  show wpAnyH _ _ _ _ _ _ _ (Act.put _ (some 61) _) _
  simp only [Act.put, List.setIfInBounds_toArray, List.set_cons_zero, List.set_cons_succ]
  refine wpAnyH_take (i := 22) (v := .bool true) rfl (by kernel_rfl) (by kernel_rfl) (by kernel_rfl) (fun _ _ _ h => h) (Or.inl ⟨by rfl, by intro w hSw; first | rfl | go_simp⟩) hHeld ?_
  show wpAnyH _ _ _ _ _ _ _ (Act.put _ (some 62) _) _
  simp only [Act.put, List.setIfInBounds_toArray, List.set_cons_zero, List.set_cons_succ]
  refine wpAnyH_take (i := 23) (v := .bool true) rfl (by kernel_rfl) (by kernel_rfl) (by kernel_rfl) (fun _ _ _ h => h) (Or.inl ⟨by rfl, fun w _ => by rfl⟩) hHeld ?_
  show wpAnyH _ _ _ _ _ _ _ (Act.put _ (some 63) _) _
  simp only [Act.put, List.setIfInBounds_toArray, List.set_cons_zero, List.set_cons_succ]
  refine wpAnyH_take (i := 24) (v := .slice (some ⟨gp, 0, none⟩) (N + 1) cp) rfl (by kernel_rfl) (by kernel_rfl) (by kernel_rfl) (fun _ _ _ h => h) (Or.inl ⟨by rfl, fun w _ => by rfl⟩) hHeld ?_
  show wpAnyH _ _ _ _ _ _ _ (Act.put _ (some 64) _) _
  simp only [Act.put, List.setIfInBounds_toArray, List.set_cons_zero, List.set_cons_succ]
  refine wpAnyH_take (i := 25) (v := .string (Oct.txt (ints ([7] ++ (rlayN S kk q m))))) rfl (by kernel_rfl) (by kernel_rfl) (by kernel_rfl) (fun _ _ _ h => h) (Or.inl ⟨by rfl, by intro w' hS; have hk := Oct.to_string w' (some ⟨gp, 0, none⟩) cp (N + 1) (ints ([7] ++ (rlayN S kk q m))) HLEN.out.symm hS.2.2.2.2; go_simp⟩) hHeld ?_
  show wpAnyH _ _ _ _ _ _ _ (Act.put _ (some 65) _) _
  simp only [Act.put, List.setIfInBounds_toArray, List.set_cons_zero, List.set_cons_succ]
  refine wpAnyH_take (i := 27) (v := .agg (rsg S kk (.slice AY m cY)).toArray) rfl (by kernel_rfl) (by kernel_rfl) (by kernel_rfl) (fun _ _ _ h => h) (yieldsIf_load_mid rfl 99 (.tmp 2) rfl hs 0 rfl (rsg S kk (.slice AY m cY)) _ (fun w' hS => hS.2.2.1.all) Tryd.underlying99 rfl (by rw [rsg_length _ _ _ HL.out]; exact info99')) hHeld ?_
  show wpAnyH _ _ _ _ _ _ _ (Act.put _ (some 67) _) _
  simp only [Act.put, List.setIfInBounds_toArray, List.set_cons_zero, List.set_cons_succ]
  refine wpAnyH_ready (rs := [26]) (by kernel_rfl) (by simp) ?_
  refine AllReadyH.cons rfl (fun K hK => ?_) AllReadyH.nil
  refine step_lay8 rfl 30 1 #[(0, .const (.int .u8 7))] rfl #[(0, .int .u8 7)] (by simp [Act.eval]) #[.int .u8 7] 5 (by kernel_rfl) ?_
  have hB : Below X6.heap.size X6 (X6.alloc (.cells #[.int .u8 7] 5)) := (Below.refl _ _).alloc (Nat.le_refl _) _
  have hQ : Blk (X6.alloc (.cells #[.int .u8 7] 5)) X6.heap.size 5 (w8 [7]) := Blk.new X6 5 (w8 [7])
  generalize X6.alloc (.cells #[.int .u8 7] 5) = X7 at hB hQ ⊢
  obtain ⟨gq, hgq⟩ : ∃ x, X6.heap.size = x := ⟨_, rfl⟩
  rw [hgq] at hQ ⊢
  have BX7 : Hid (Below w.heap.size w X7) := Lib.hid (BX6.out.trans (hB.mono BX6.out.size))
  have WX7 : Hid (Below V5.heap.size V5 X7) := Lib.hid (WX6.out.trans (hB.mono WX6.out.size))
  have XX7 : Hid (Blk X7 gx 94 (rsg TS TK (.slice Ax TM cx))) := Lib.hid (XX6.out.below hB XX6.out.lt)
  have YX7 : Hid (Blk X7 gy 99 (rsg TS TK (.slice Ay TM cy))) := Lib.hid (YX6.out.below hB YX6.out.lt)
  have SX7 : Hid (Blk X7 hs 99 (rsg S kk (.slice AY m cY))) := Lib.hid (SX6.out.below hB SX6.out.lt)
  have MX7 : Hid (Blk X7 gm 68 [.slice A l.length c, .int .i64 ((at5 : Nat) : Int), .int .i64 ((E1 : Nat) : Int)]) := Lib.hid (MX6.out.below hB MX6.out.lt)
  have PX7 : Hid (Oct.Src X7 (some ⟨gp, 0, none⟩) cp (ints ([7] ++ (rlayN S kk q m)))) := Lib.hid (PX6.out.below hB)
  have IX7 : Hid (Oct.InG X7 gi L1 E1) := Lib.hid (IX6.out.below hB)
  have RX7 : Hid (RefR X7 gm A c l L1 E1) := Lib.hid (RX6.out.below hB)
  have KX7 : Hid (Oct.InG X7 gk (rlayN S kk q m) 0) := Lib.hid (KX6.out.below hB)
  have QX7 : Hid (Blk X7 gq 5 (w8 [7])) := Lib.hid (hQ)
  clear BX6 WX6 XX6 YX6 SX6 MX6 PX6 IX6 RX6 KX6 hB hQ hgq
  refine hK.out _ _ (⟨XX7.out, YX7.out, SX7.out, MX7.out, PX7.out⟩) (fun hHeld => ?_)
  clear hK K
  show wpAnyH _ _ _ _ _ _ _ (Act.put _ (some 66) _) _
  simp only [Act.put, List.setIfInBounds_toArray, List.set_cons_zero, List.set_cons_succ]
  refine wpAnyH_ready (rs := [28]) (by kernel_rfl) (by simp) ?_
  refine AllReadyH.cons rfl (fun K hK => ?_) AllReadyH.nil
  refine step_call rfl 61 #[.tmp 66, .tmp 67] #[30, 99] rfl #[.slice (some ⟨gq, 0, none⟩) 1 1, .agg (rsg S kk (.slice AY m cY)).toArray] (by simp [Act.eval]) (by go_simp) (refringlay_any S kk m AY (some ⟨gq, 0, none⟩) cY 1 1 q [7] X7 HL HP hk hm HQ HQP (Lib.hid (HY.out.below BX7.out)) (Lib.hid (src_one QX7.out)) (Lib.hid rfl) (by omega) (Lib.hid (by simp))) ?_
  rintro e X8 ⟨v8, rfl, hO8, hB⟩
  obtain ⟨A8, c8, hv8, hc8, hs8⟩ := hO8.srcB (b := X8.heap.size) (Nat.le_refl _) HLT.out
  rw [HLEN8.out] at hv8
  subst hv8
  have hz8 : Oct.Src X8 A8 c8 (ints ([7] ++ (rlayN S kk q m))) := hs8.toOct5 (fun e => by rw [e] at hs8; exact absurd hs8 (no_nil5 HLEN8.out))
  have BX8 : Hid (Below w.heap.size w X8) := Lib.hid (BX7.out.trans (hB.mono BX7.out.size))
  have WX8 : Hid (Below V5.heap.size V5 X8) := Lib.hid (WX7.out.trans (hB.mono WX7.out.size))
  have XX8 : Hid (Blk X8 gx 94 (rsg TS TK (.slice Ax TM cx))) := Lib.hid (XX7.out.below hB XX7.out.lt)
  have YX8 : Hid (Blk X8 gy 99 (rsg TS TK (.slice Ay TM cy))) := Lib.hid (YX7.out.below hB YX7.out.lt)
  have SX8 : Hid (Blk X8 hs 99 (rsg S kk (.slice AY m cY))) := Lib.hid (SX7.out.below hB SX7.out.lt)
  have MX8 : Hid (Blk X8 gm 68 [.slice A l.length c, .int .i64 ((at5 : Nat) : Int), .int .i64 ((E1 : Nat) : Int)]) := Lib.hid (MX7.out.below hB MX7.out.lt)
  have PX8 : Hid (Oct.Src X8 (some ⟨gp, 0, none⟩) cp (ints ([7] ++ (rlayN S kk q m)))) := Lib.hid (PX7.out.below hB)
  have IX8 : Hid (Oct.InG X8 gi L1 E1) := Lib.hid (IX7.out.below hB)
  have RX8 : Hid (RefR X8 gm A c l L1 E1) := Lib.hid (RX7.out.below hB)
  have KX8 : Hid (Oct.InG X8 gk (rlayN S kk q m) 0) := Lib.hid (KX7.out.below hB)
  have ZX8 : Hid (Oct.Src X8 A8 c8 (ints ([7] ++ (rlayN S kk q m)))) := Lib.hid (hz8)
  clear BX7 WX7 XX7 YX7 SX7 MX7 PX7 IX7 RX7 KX7 hB hO8 hc8 hs8 hz8
  refine ⟨_, rfl, hK.out _ _ (⟨XX8.out, YX8.out, SX8.out, MX8.out, PX8.out⟩) (fun hHeld => ?_)⟩
  clear hK K
  show wpAnyH _ _ _ _ _ _ _ (Act.put _ (some 68) _) _
  simp only [Act.put, List.setIfInBounds_toArray, List.set_cons_zero, List.set_cons_succ]
  refine wpAnyH_ready (rs := [29]) (by kernel_rfl) (by simp) ?_
  refine AllReadyH.cons rfl (fun K hK => ?_) AllReadyH.nil
  refine step_conv5 rfl 30 9 (.tmp 68) rfl (.slice A8 (N + 1) c8) (.string (Oct.txt (ints ([7] ++ (rlayN S kk q m))))) rfl (to_string9 X8 A8 c8 (N + 1) _ HLEN.out.symm ZX8.out) ?_
  refine hK.out _ _ (⟨XX8.out, YX8.out, SX8.out, MX8.out, PX8.out⟩) (fun hHeld => ?_)
  clear hK K
  show wpAnyH _ _ _ _ _ _ _ (Act.put _ (some 69) _) _
  simp only [Act.put, List.setIfInBounds_toArray, List.set_cons_zero, List.set_cons_succ]
  refine wpAnyH_take (i := 30) (v := .bool true) rfl (by kernel_rfl) (by kernel_rfl) (by kernel_rfl) (fun _ _ _ h => h) (Or.inl ⟨by rfl, by intro w' h; go_simp⟩) hHeld ?_
  show wpAnyH _ _ _ _ _ _ _ (Act.put _ (some 70) _) _
  simp only [Act.put, List.setIfInBounds_toArray, List.set_cons_zero, List.set_cons_succ]
  refine wpAnyH_take (i := 31) (v := .bool true) rfl (by kernel_rfl) (by kernel_rfl) (by kernel_rfl) (fun _ _ _ h => h) (Or.inl ⟨by rfl, by intro w hSw; first | rfl | go_simp⟩) hHeld ?_
  show wpAnyH _ _ _ _ _ _ _ (Act.put _ (some 71) _) _
  simp only [Act.put, List.setIfInBounds_toArray, List.set_cons_zero, List.set_cons_succ]
  refine wpAnyH_take (i := 32) (v := .bool true) rfl (by kernel_rfl) (by kernel_rfl) (by kernel_rfl) (fun _ _ _ h => h) (Or.inl ⟨by rfl, fun w _ => by rfl⟩) hHeld ?_
  show wpAnyH _ _ _ _ _ _ _ (Act.put _ (some 72) _) _
  simp only [Act.put, List.setIfInBounds_toArray, List.set_cons_zero, List.set_cons_succ]
  refine wpAnyH_take (i := 33) (v := .pointer (some ⟨gk, 0, none⟩)) rfl (by kernel_rfl) (by kernel_rfl) (by kernel_rfl) (fun _ _ _ h => h) (Or.inl ⟨by rfl, fun w _ => by rfl⟩) hHeld ?_
  show wpAnyH _ _ _ _ _ _ _ (Act.put _ (some 73) _) _
  simp only [Act.put, List.setIfInBounds_toArray, List.set_cons_zero, List.set_cons_succ]
  refine wpAnyH_take (i := 36) (v := .agg (rsg S kk (.slice AY m cY)).toArray) rfl (by kernel_rfl) (by kernel_rfl) (by kernel_rfl) (fun _ _ _ h => h) (yieldsIf_load_mid rfl 99 (.tmp 2) rfl hs 0 rfl (rsg S kk (.slice AY m cY)) _ (fun w' hS => hS.2.2.1.all) Tryd.underlying99 rfl (by rw [rsg_length _ _ _ HL.out]; exact info99')) hHeld ?_
  show wpAnyH _ _ _ _ _ _ _ (Act.put _ (some 76) _) _
  simp only [Act.put, List.setIfInBounds_toArray, List.set_cons_zero, List.set_cons_succ]
  refine wpAnyH_ready (rs := [34]) (by kernel_rfl) (by simp) ?_
  refine AllReadyH.cons rfl (fun K hK => ?_) AllReadyH.nil
  refine step_call rfl 58 #[.tmp 73] #[64] rfl #[.pointer (some ⟨gk, 0, none⟩)] (by simp [Act.eval]) (by go_simp) (ringtake_any gk (rlayN S kk q m) 0 X8 KX8 HRL) ?_
  rintro e X10 hT
  obtain ⟨Ab, cb, rfl, hwb, hi, hO⟩ := take_back5 hk hm HL.out HQ.out hT
  have hSK : some hs ≠ some gk := fun e => by injection e with e; omega
  have hXK : some gx ≠ some gk := fun e => by injection e with e; omega
  have hYK : some gy ≠ some gk := fun e => by injection e with e; omega
  have hMK : some gm ≠ some gk := fun e => by injection e with e; omega
  have hPK : (ints ([7] ++ (rlayN S kk q m))) ≠ [] → ∀ a, (some ⟨gp, 0, none⟩ : Option Addr) = some a → a.block ≠ gk := fun _ a ha => by injection ha with ha; rw [← ha]; show gp ≠ gk; omega
  have BX10 : Hid (Below w.heap.size w X10) := Lib.hid (BX8.out.trans (only_up hO hwk BX8.out.size))
  have WX10 : Hid (Below V5.heap.size V5 X10) := Lib.hid (WX8.out.trans (only_up hO hwk5 WX8.out.size))
  have XX10 : Hid (Blk X10 gx 94 (rsg TS TK (.slice Ax TM cx))) := Lib.hid (XX8.out.grown hO hXK)
  have YX10 : Hid (Blk X10 gy 99 (rsg TS TK (.slice Ay TM cy))) := Lib.hid (YX8.out.grown hO hYK)
  have SX10 : Hid (Blk X10 hs 99 (rsg S kk (.slice AY m cY))) := Lib.hid (SX8.out.grown hO hSK)
  have MX10 : Hid (Blk X10 gm 68 [.slice A l.length c, .int .i64 ((at5 : Nat) : Int), .int .i64 ((E1 : Nat) : Int)]) := Lib.hid (MX8.out.grown hO hMK)
  have PX10 : Hid (Oct.Src X10 (some ⟨gp, 0, none⟩) cp (ints ([7] ++ (rlayN S kk q m)))) := Lib.hid (PX8.out.far5 hO hPK)
  have KX10 : Hid (Oct.InG X10 gk [] 0) := Lib.hid (hi)
  have GX10 : Hid (WayR X10 (.slice Ab m cb) q m) := Lib.hid (hwb)
  clear BX8 WX8 XX8 YX8 SX8 MX8 PX8 hO hi hT hwb hSK hXK hYK hMK hPK
  refine ⟨_, rfl, hK.out _ _ (⟨XX10.out, YX10.out, SX10.out, MX10.out, PX10.out⟩) (fun hHeld => ?_)⟩
  clear hK K
  show wpAnyH _ _ _ _ _ _ _ (Act.put _ (some 74) _) _
  simp only [Act.put, List.setIfInBounds_toArray, List.set_cons_zero, List.set_cons_succ]
  refine wpAnyH_ready (rs := [35]) (by kernel_rfl) (by simp) ?_
  refine AllReadyH.cons rfl (fun K hK => ?_) AllReadyH.nil
  refine step_call rfl 53 #[.tmp 74] #[94] rfl #[.agg (rsg S kk (.slice Ab m cb)).toArray] (by simp [Act.eval]) (by go_simp) (rfrom5_any S kk m Ab cb q X10 HL HQ GX10 (by omega)) ?_
  rintro e X11 ⟨vf, rfl, hwf, hB⟩
  have BX11 : Hid (Below w.heap.size w X11) := Lib.hid (BX10.out.trans (hB.mono BX10.out.size))
  have WX11 : Hid (Below V5.heap.size V5 X11) := Lib.hid (WX10.out.trans (hB.mono WX10.out.size))
  have XX11 : Hid (Blk X11 gx 94 (rsg TS TK (.slice Ax TM cx))) := Lib.hid (XX10.out.below hB XX10.out.lt)
  have YX11 : Hid (Blk X11 gy 99 (rsg TS TK (.slice Ay TM cy))) := Lib.hid (YX10.out.below hB YX10.out.lt)
  have SX11 : Hid (Blk X11 hs 99 (rsg S kk (.slice AY m cY))) := Lib.hid (SX10.out.below hB SX10.out.lt)
  have MX11 : Hid (Blk X11 gm 68 [.slice A l.length c, .int .i64 ((at5 : Nat) : Int), .int .i64 ((E1 : Nat) : Int)]) := Lib.hid (MX10.out.below hB MX10.out.lt)
  have PX11 : Hid (Oct.Src X11 (some ⟨gp, 0, none⟩) cp (ints ([7] ++ (rlayN S kk q m)))) := Lib.hid (PX10.out.below hB)
  have KX11 : Hid (Oct.InG X11 gk [] 0) := Lib.hid (KX10.out.below hB)
  have FX11 : Hid (WayR X11 vf q m) := Lib.hid (hwf)
  clear BX10 WX10 XX10 YX10 SX10 MX10 PX10 KX10 hB hwf
  refine ⟨_, rfl, hK.out _ _ (⟨XX11.out, YX11.out, SX11.out, MX11.out, PX11.out⟩) (fun hHeld => ?_)⟩
  clear hK K
  show wpAnyH _ _ _ _ _ _ _ (Act.put _ (some 75) _) _
  simp only [Act.put, List.setIfInBounds_toArray, List.set_cons_zero, List.set_cons_succ]
  refine wpAnyH_ready (rs := [37]) (by kernel_rfl) (by simp) ?_
  refine AllReadyH.cons rfl (fun K hK => ?_) AllReadyH.nil
  refine step_call rfl 52 #[.tmp 75, .tmp 76] #[99, 99] rfl #[.agg (rsg S kk vf).toArray, .agg (rsg S kk (.slice AY m cY)).toArray] (by simp [Act.eval]) (by go_simp) (same_eq S kk m vf (.slice AY m cY) q X11 HL HQ FX11 (Lib.hid (HY.out.below BX11.out)) (by omega)) ?_
  rintro e X12 ⟨rfl, hB⟩
  have BX12 : Hid (Below w.heap.size w X12) := Lib.hid (BX11.out.trans (hB.mono BX11.out.size))
  have WX12 : Hid (Below V5.heap.size V5 X12) := Lib.hid (WX11.out.trans (hB.mono WX11.out.size))
  have XX12 : Hid (Blk X12 gx 94 (rsg TS TK (.slice Ax TM cx))) := Lib.hid (XX11.out.below hB XX11.out.lt)
  have YX12 : Hid (Blk X12 gy 99 (rsg TS TK (.slice Ay TM cy))) := Lib.hid (YX11.out.below hB YX11.out.lt)
  have SX12 : Hid (Blk X12 hs 99 (rsg S kk (.slice AY m cY))) := Lib.hid (SX11.out.below hB SX11.out.lt)
  have MX12 : Hid (Blk X12 gm 68 [.slice A l.length c, .int .i64 ((at5 : Nat) : Int), .int .i64 ((E1 : Nat) : Int)]) := Lib.hid (MX11.out.below hB MX11.out.lt)
  have PX12 : Hid (Oct.Src X12 (some ⟨gp, 0, none⟩) cp (ints ([7] ++ (rlayN S kk q m)))) := Lib.hid (PX11.out.below hB)
  have KX12 : Hid (Oct.InG X12 gk [] 0) := Lib.hid (KX11.out.below hB)
  clear BX11 WX11 XX11 YX11 SX11 MX11 PX11 KX11 hB
  refine ⟨_, rfl, hK.out _ _ (⟨XX12.out, YX12.out, SX12.out, MX12.out, PX12.out⟩) (fun hHeld => ?_)⟩
  clear hK K
  show wpAnyH _ _ _ _ _ _ _ (Act.put _ (some 77) _) _
  simp only [Act.put, List.setIfInBounds_toArray, List.set_cons_zero, List.set_cons_succ]
  refine wpAnyH_take (i := 38) (v := .bool true) rfl (by kernel_rfl) (by kernel_rfl) (by kernel_rfl) (fun _ _ _ h => h) (Or.inl ⟨by rfl, by intro w hSw; first | rfl | go_simp⟩) hHeld ?_
  show wpAnyH _ _ _ _ _ _ _ (Act.put _ (some 78) _) _
  simp only [Act.put, List.setIfInBounds_toArray, List.set_cons_zero, List.set_cons_succ]
  refine wpAnyH_take (i := 39) (v := .bool true) rfl (by kernel_rfl) (by kernel_rfl) (by kernel_rfl) (fun _ _ _ h => h) (Or.inl ⟨by rfl, fun w _ => by rfl⟩) hHeld ?_
  show wpAnyH _ _ _ _ _ _ _ (Act.put _ (some 79) _) _
  simp only [Act.put, List.setIfInBounds_toArray, List.set_cons_zero, List.set_cons_succ]
  refine wpAnyH_take (i := 40) (v := .pointer (some ⟨gk, 0, none⟩)) rfl (by kernel_rfl) (by kernel_rfl) (by kernel_rfl) (fun _ _ _ h => h) (Or.inl ⟨by rfl, fun w _ => by rfl⟩) hHeld ?_
  show wpAnyH _ _ _ _ _ _ _ (Act.put _ (some 80) _) _
  simp only [Act.put, List.setIfInBounds_toArray, List.set_cons_zero, List.set_cons_succ]
  refine wpAnyH_ready (rs := [41]) (by kernel_rfl) (by simp) ?_
  refine AllReadyH.cons rfl (fun K hK => ?_) AllReadyH.nil
  refine step_call rfl 38 #[.tmp 80] #[64] rfl #[.pointer (some ⟨gk, 0, none⟩)] (by simp [Act.eval]) (by go_simp) (end_GB gk X12 KX12) ?_
  rintro e X13 ⟨rfl, hB⟩
  have BX13 : Hid (Below w.heap.size w X13) := Lib.hid (BX12.out.trans (hB.mono BX12.out.size))
  have WX13 : Hid (Below V5.heap.size V5 X13) := Lib.hid (WX12.out.trans (hB.mono WX12.out.size))
  have XX13 : Hid (Blk X13 gx 94 (rsg TS TK (.slice Ax TM cx))) := Lib.hid (XX12.out.below hB XX12.out.lt)
  have YX13 : Hid (Blk X13 gy 99 (rsg TS TK (.slice Ay TM cy))) := Lib.hid (YX12.out.below hB YX12.out.lt)
  have SX13 : Hid (Blk X13 hs 99 (rsg S kk (.slice AY m cY))) := Lib.hid (SX12.out.below hB SX12.out.lt)
  have MX13 : Hid (Blk X13 gm 68 [.slice A l.length c, .int .i64 ((at5 : Nat) : Int), .int .i64 ((E1 : Nat) : Int)]) := Lib.hid (MX12.out.below hB MX12.out.lt)
  have PX13 : Hid (Oct.Src X13 (some ⟨gp, 0, none⟩) cp (ints ([7] ++ (rlayN S kk q m)))) := Lib.hid (PX12.out.below hB)
  have KX13 : Hid (Oct.InG X13 gk [] 0) := Lib.hid (KX12.out.below hB)
  clear BX12 WX12 XX12 YX12 SX12 MX12 PX12 KX12 hB
  refine ⟨_, rfl, hK.out _ _ (⟨XX13.out, YX13.out, SX13.out, MX13.out, PX13.out⟩) (fun hHeld => ?_)⟩
  clear hK K
  show wpAnyH _ _ _ _ _ _ _ (Act.put _ (some 81) _) _
  simp only [Act.put, List.setIfInBounds_toArray, List.set_cons_zero, List.set_cons_succ]
  refine wpAnyH_take (i := 42) (v := .bool true) rfl (by kernel_rfl) (by kernel_rfl) (by kernel_rfl) (fun _ _ _ h => h) (Or.inl ⟨by rfl, by intro w' h; go_simp⟩) hHeld ?_
  show wpAnyH _ _ _ _ _ _ _ (Act.put _ (some 82) _) _
  simp only [Act.put, List.setIfInBounds_toArray, List.set_cons_zero, List.set_cons_succ]
  refine wpAnyH_take (i := 43) (v := .bool true) rfl (by kernel_rfl) (by kernel_rfl) (by kernel_rfl) (fun _ _ _ h => h) (Or.inl ⟨by rfl, by intro w hSw; first | rfl | go_simp⟩) hHeld ?_
  show wpAnyH _ _ _ _ _ _ _ (Act.put _ (some 83) _) _
  simp only [Act.put, List.setIfInBounds_toArray, List.set_cons_zero, List.set_cons_succ]
  refine wpAnyH_take (i := 44) (v := .bool true) rfl (by kernel_rfl) (by kernel_rfl) (by kernel_rfl) (fun _ _ _ h => h) (Or.inl ⟨by rfl, fun w _ => by rfl⟩) hHeld ?_
  show wpAnyH _ _ _ _ _ _ _ (Act.put _ (some 4) _) _
  simp only [Act.put, List.setIfInBounds_toArray, List.set_cons_zero, List.set_cons_succ]
  refine wpAnyH_done (by kernel_rfl) ?_ _
  clear hHeld
  go_wp2
  go_ret
  exact ⟨rfl, BX13.out⟩

set_option maxRecDepth 100000 in
set_option maxHeartbeats 2000000 in
theorem rbytes_dark1 (S : List Nat) (kk m : Nat) (AY : Option Addr) (cY : Nat) (q : Nat → List Nat) (A : Option Addr) (n c : Nat) (w : World) (HTA : Hid (Tab w)) (HL : Hid (S.length = 1024)) (HP : Hid (∀ x ∈ S, x < 256)) (hk : kk < 4294967296) (HQ : Hid (∀ a, (q a).length = 32)) (HQP : Hid (∀ a, ∀ x ∈ q a, x < 256)) (HY : Hid (WayR w (.slice AY m cY) q m)) (hn : 5000 < n) (hnm : n ≤ maxLen) :
    Calls Tryd.prog 11 #[.agg (rsg S kk (.slice AY m cY)).toArray, .slice A n c] w fun e w' => e = .returned (.bool true) ∧ Below w.heap.size w w' := by
  have d1 : (5000 : Int) < (n : Int) := by omega
  go_enter Tryd.func11, Tryd.ntmps11
  go_upto_region 1 with fail
  have S1 : Hid (Blk (w.alloc (.cells (rsg S kk (.slice AY m cY)).toArray 99)) w.heap.size 99 ((rsg S kk (.slice AY m cY)))) := Lib.hid (by
    have h := Blk.new w 99 ((rsg S kk (.slice AY m cY)))
    exact h)
  have B1 : Hid (Below w.heap.size w (w.alloc (.cells (rsg S kk (.slice AY m cY)).toArray 99))) := Lib.hid ((Below.refl _ _).alloc (Nat.le_refl _) _)
  generalize (w.alloc (.cells (rsg S kk (.slice AY m cY)).toArray 99)) = V1 at S1 B1 ⊢
  go_wp2_with fail
  refine (awake5_any V1 (Lib.hid (HTA.out.below B1.out HTA.out.lt))).mono ?_
  rintro e w1 ⟨rfl, hB⟩
  have B2 := Lib.hid (B1.out.trans (hB.mono B1.out.size))
  clear hB
  go_wp2
  go_ret
  exact ⟨rfl, B2.out⟩
set_option maxRecDepth 100000 in
set_option maxHeartbeats 2000000 in
theorem rbytes_dark2 (S : List Nat) (kk m : Nat) (AY : Option Addr) (cY : Nat) (q : Nat → List Nat) (A : Option Addr) (n c : Nat) (w : World) (HTA : Hid (Tab w)) (HL : Hid (S.length = 1024)) (HP : Hid (∀ x ∈ S, x < 256)) (hk : kk < 4294967296) (HQ : Hid (∀ a, (q a).length = 32)) (HQP : Hid (∀ a, ∀ x ∈ q a, x < 256)) (HY : Hid (WayR w (.slice AY m cY) q m)) (hn : n ≤ 5000) (hm : 8 < m) (hmm : m ≤ maxLen) :
    Calls Tryd.prog 11 #[.agg (rsg S kk (.slice AY m cY)).toArray, .slice A n c] w fun e w' => e = .returned (.bool true) ∧ Below w.heap.size w w' := by
  have d1 : ¬ ((5000 : Int) < (n : Int)) := by omega
  have d2 : (8 : Int) < (m : Int) := by omega
  go_enter Tryd.func11, Tryd.ntmps11
  go_upto_region 1 with fail
  have S1 : Hid (Blk (w.alloc (.cells (rsg S kk (.slice AY m cY)).toArray 99)) w.heap.size 99 ((rsg S kk (.slice AY m cY)))) := Lib.hid (by
    have h := Blk.new w 99 ((rsg S kk (.slice AY m cY)))
    exact h)
  have B1 : Hid (Below w.heap.size w (w.alloc (.cells (rsg S kk (.slice AY m cY)).toArray 99))) := Lib.hid ((Below.refl _ _).alloc (Nat.le_refl _) _)
  generalize (w.alloc (.cells (rsg S kk (.slice AY m cY)).toArray 99)) = V1 at S1 B1 ⊢
  have c1 : V1.cell? ⟨w.heap.size, 1025, none⟩ = some (.slice AY m cY) := by rw [S1.out.cell]; exact rsg_way _ _ _ HL.out
  go_wp2_with fail
  refine (awake5_any V1 (Lib.hid (HTA.out.below B1.out HTA.out.lt))).mono ?_
  rintro e w1 ⟨rfl, hB⟩
  have B2 := Lib.hid (B1.out.trans (hB.mono B1.out.size))
  clear hB
  go_wp2
  go_ret
  exact ⟨rfl, B2.out⟩
/-- Bytes that came in. -/
structure CameZ5 (W : World) (A : Option Addr) (n c : Nat) (l : List Nat) : Prop where
  src : Src W W.heap.size A c l
  len : l.length = n
  nil : A = none → c = 0
  cap : c ≤ maxLen
theorem ringBytes_walk (S : List Nat) (kk : Nat) (AY : Option Addr) (m cY : Nat) (q : Nat → List Nat) (A : Option Addr) (n c : Nat) (l : List Nat) (w : World) (HTA : Hid (Tab w)) (HL : Hid (S.length = 1024)) (HP : Hid (∀ x ∈ S, x < 256)) (hk : kk < 4294967296) (HQ : Hid (∀ a, (q a).length = 32)) (HQP : Hid (∀ a, ∀ x ∈ q a, x < 256)) (HY : Hid (WayR w (.slice AY m cY) q m)) (hmm : m ≤ maxLen) (HB : Hid (CameZ5 w A n c l)) :
    Calls Tryd.prog 11 #[.agg (rsg S kk (.slice AY m cY)).toArray, .slice A n c] w fun e w' => e = .returned (.bool true) ∧ Below w.heap.size w w' := by
  have hc : c ≤ 9223372036854775807 := by have := HB.out.cap; unfold maxLen at this; exact this
  by_cases h : n ≤ 5000
  · by_cases hm : m ≤ 8
    · exact rbytes_light S kk m AY cY q A n c w.heap.size l w HTA HL HP hk HQ HQP HY hm (Lib.hid HB.out.src) rfl HB.out.nil HB.out.len h hc HB.out.src.lt
    · exact rbytes_dark2 S kk m AY cY q A n c w HTA HL HP hk HQ HQP HY h (by omega) hmm
  · exact rbytes_dark1 S kk m AY cY q A n c w HTA HL HP hk HQ HQP HY (by omega) (by have := HB.out.src.le; have := HB.out.len; have := HB.out.cap; omega)
end Go.Proofs.YtkonokjhpddbfaaDoor
