/-
  tollhouselaw04.LampBytes (function 6): its walk: true for every signature and bytes; nothing that was there is written.
-/
import Derived.Test.YtkonokjhpddbfaaDoorBytesLib
namespace Go.Proofs.YtkonokjhpddbfaaDoor
open Go.RowKit
set_option linter.unusedVariables false

theorem cutHi71 (g o L c h : Nat) (hh : h ≤ L) (hc : L < c ∨ h < L) (hlc : L ≤ c) (W : World) : (Instr.slice 71 (.slice (some ⟨g, o, none⟩) L c) (some (.int .i64 (h : Int))) none none).run Tryd.prog W = .ok (.slice (some ⟨g, o + h, none⟩) (L - h) (c - h)) W := by
  obtain ⟨i0, hi, hzz⟩ := Option.map_eq_some_iff.1 Oct.byte_info
  simp only [Prod.mk.injEq] at hzz
  obtain ⟨hz0, hz1, hz2⟩ := hzz
  rw [run_slice_l (P := Tryd.prog) W 71 _ L c (by kernel_rfl) .i64 (h : Int) (by omega) (by omega), show Tryd.prog.elem 71 = 5 by kernel_rfl]
  have e : ¬ (c = h) := by omega
  simp [sizeOf, typeInfo, hi, hz1, sliced, e, Go.WideShapes.add_plain]

theorem run_bin_op {o : Oper} {a : Act} {b : BinOp} {t u : TypeId} {x y : Operand} (ho : o.op = .binOp b t x y u) (hm : Tryd.prog.eqGuardType Tryd.prog.depth t = false) (vx vy : Array Value) (hx : a.eval x = .agg vx) (hy : a.eval y = .agg vy) (v : Value) (w : World) (hb : (binOp b t (.agg vx) (.agg vy)).run Tryd.prog w = .ok v w) :
    (execOp a.eval o).run Tryd.prog w = .ok (.value v) w := by
  unfold execOp
  simp only [ho, hx, hy, Sem.run_bind, run_eqGuard_agg w b t x y vx vy hm, hb, Result.andThen_ok, Sem.run_pure]
theorem no_nil {w : World} {b c : Nat} {l : List Nat} (hl : l.length = 1025) : ¬ Src w b none c l := fun h => by
  rcases h.at_ with h1 | ⟨g, off, h1, _⟩
  · rw [h1] at hl; cases hl
  · cases h1

set_option maxRecDepth 100000 in
set_option maxHeartbeats 8000000 in
theorem bytes_light (S : List Nat) (A : Option Addr) (n c b : Nat) (l : List Nat) (w : World) (HTA : Hid (Tab w)) (HL : Hid (S.length = 1024)) (HP : Hid (∀ x ∈ S, x < 256)) (HS : Hid (Src w b A c l)) (hb : b = w.heap.size) (h0 : A = none → c = 0) (hn : l.length = n) (hn5 : n ≤ 5000) (hc : c ≤ 9223372036854775807) (hlt : ∀ x ∈ l, x < 256) :
    Calls Tryd.prog 6 #[.agg (w8 S).toArray, .slice A n c] w fun e w' => e = .returned (.bool true) ∧ Below w.heap.size w w' := by
  have HAS : Hid ((Tryd.prog.info? 51).map (·.size) = some (w8 S).length) := Lib.hid (by rw [w8_length, HL.out]; exact info51)
  have HOC := Lib.hid (HS.out.toOct h0)
  have HSM : Hid (∀ gm, w.heap.size ≤ gm → Src w gm A c l ∧ (l ≠ [] → ∀ a, A = some a → a.block < gm)) := Lib.hid fun gm hg => by
    rcases HS.out.at_ with h | ⟨g, off, h, h2, h3, h4⟩
    · exact ⟨⟨HS.out.le, .inl h, HS.out.lt⟩, fun hl => absurd h hl⟩
    · exact ⟨⟨HS.out.le, .inr ⟨g, off, h, h2, by omega, h4⟩, HS.out.lt⟩, fun _ a ha => by rw [h] at ha; injection ha with ha; rw [← ha]; show g < gm; omega⟩
  have n1 : (n : Int) ≤ 5000 := by omega
  have n0 : (0 : Int) ≤ (n : Int) := Int.natCast_nonneg _
  have d1 : ¬ ((5000 : Int) < (n : Int)) := by omega
  go_enter Tryd.func6, Tryd.ntmps6
  go_upto_region 1 with fail
  have S1 : Hid (Blk (w.alloc (.cells (w8 S).toArray 51)) w.heap.size 51 (w8 S)) := Lib.hid (by
    have h := Blk.new w 51 (w8 S)
    exact h)
  have B1 : Hid (Below w.heap.size w (w.alloc (.cells (w8 S).toArray 51))) := Lib.hid ((Below.refl _ _).alloc (Nat.le_refl _) _)
  have C1 := Lib.hid (HOC.out.below B1.out)
  generalize (w.alloc (.cells (w8 S).toArray 51)) = V1 at S1 B1 C1 ⊢
  obtain ⟨hs, hhs⟩ : ∃ x, w.heap.size = x := ⟨_, rfl⟩
  have HHS := Lib.hid hhs
  rw [hhs] at S1 ⊢
  clear hhs
  go_wp2_with fail
  refine (Oct.of_any A c n (ints l) V1 C1 (Lib.hid (by rw [ints_length, hn])) (by omega)).mono ?_
  rintro e V2 ⟨gi, rfl, hi, hB, hgi⟩
  have B2 := Lib.hid (B1.out.trans (hB.mono B1.out.size))
  have S2 := Lib.hid (S1.out.below hB S1.out.lt)
  have I2 : Hid (InK V2 gi l 0) := Lib.hid (by unfold InK; rw [if_pos (by omega), Nat.mul_zero, List.drop_zero]; exact hi)
  have C2 := Lib.hid (HS.out.below B2.out)
  have hsgi : hs < gi := by have := S1.out.lt; omega
  clear hi hB B1 S1 C1
  go_upto_region 4 with fail
  have hB : Below V2.heap.size V2 (V2.alloc (.cells #[.slice A n c, .int .i64 0, .int .i64 0] 68)) := (Below.refl _ _).alloc (Nat.le_refl _) _
  have B3 := Lib.hid (B2.out.trans (hB.mono B2.out.size))
  have S3 := Lib.hid (S2.out.below hB S2.out.lt)
  have I3 := Lib.hid (I2.out.below hB)
  have hwm : w.heap.size ≤ V2.heap.size := B2.out.size
  have R3 : Hid (RefK (V2.alloc (.cells #[.slice A n c, .int .i64 0, .int .i64 0] 68)) V2.heap.size A c l 0) := Lib.hid ⟨by
    have h := Blk.new V2 68 [.slice A n c, .int .i64 0, .int .i64 0]
    rw [hn]
    unfold rAt rBad
    rw [if_pos (by omega), if_pos (by omega)]
    exact h, (HSM.out _ hwm).1.below B3.out, hc, (HSM.out _ hwm).2⟩
  have higm : gi < V2.heap.size := I2.out.lt
  clear hB B2 S2 I2 C2
  generalize V2.alloc (.cells #[.slice A n c, .int .i64 0, .int .i64 0] 68) = V3 at B3 S3 I3 R3 ⊢
  generalize V2.heap.size = gm at R3 higm hwm ⊢
  go_wp2_with fail
  refine (take_lamp gi l V3 I3).mono ?_
  rintro e V4 ⟨rfl, hi4, hg4⟩
  have hwi : w.heap.size ≤ gi := by have := HHS.out; omega
  have B4 := Lib.hid (B3.out.trans (only_up hg4 hwi B3.out.size))
  have S4 := Lib.hid (S3.out.grown hg4 (fun e => by injection e with e; omega))
  have I4 := Lib.hid hi4
  have R4 : Hid (RefK V4 gm A c l 0) := Lib.hid ⟨R3.out.blk.grown hg4 (fun e => by injection e with e; omega), (HSM.out _ hwm).1.below B4.out, hc, R3.out.old⟩
  clear hi4 hg4 B3 S3 I3 R3
  go_wp2_with fail
  refine (rtake_any gm A c l V4 R4 (by omega)).mono ?_
  rintro e V5 ⟨rfl, hr5, hg5⟩
  have B5 := Lib.hid (B4.out.trans (only_up hg5 hwm B4.out.size))
  have S5 := Lib.hid (S4.out.grown hg5 (fun e => by injection e with e; omega))
  have I5 := Lib.hid (I4.out.far hg5 higm)
  have R5 := Lib.hid hr5
  have hTL := takeN_length l
  have HTL := Lib.hid hTL
  obtain ⟨TL, hTLe⟩ : ∃ t, takeN l = t := ⟨_, rfl⟩
  rw [hTLe] at hTL HTL ⊢
  have i56 : (Tryd.prog.info? 56).map (·.size) = some (w8 TL).toArray.size := by rw [List.size_toArray, w8_length, hTL]; exact info56
  have i51 : (Tryd.prog.info? 51).map (·.size) = some (w8 TL).toArray.size := by rw [List.size_toArray, w8_length, hTL]; exact info51
  have hTO := all_oneCell_toArray (w8_one TL)
  have z56 : Tryd.zeroCells56.size = (w8 TL).toArray.size := by rw [← zc56]; simp [w8_length, hTL]
  have z51 : Tryd.zeroCells51.size = (w8 TL).toArray.size := by rw [← zc51]; simp [w8_length, hTL]
  have hA1 : ((V5.alloc (.cells Tryd.zeroCells56 56)).alloc (.cells Tryd.zeroCells51 51)).heap[V5.heap.size]? = some (.cells Tryd.zeroCells56 56 (0, 0)) := by
    have h := heap_alloc2_old V5 (.cells Tryd.zeroCells56 56) (.cells Tryd.zeroCells51 51)
    exact h
  have hA2 : (((V5.alloc (.cells Tryd.zeroCells56 56)).alloc (.cells Tryd.zeroCells51 51)).setRow V5.heap.size (w8 TL).toArray).heap[V5.heap.size + 1]? = some (.cells Tryd.zeroCells51 51 (0, 0)) := by
    rw [setRow_other _ _ _ _ (by omega)]
    exact heap_alloc2_new V5 (.cells Tryd.zeroCells56 56) (.cells Tryd.zeroCells51 51)
  clear hr5 hg5 B4 S4 I4 R4 hTLe
  go_upto_region 5 with (first | (refine wpList_store_row rfl 56 (.tmp 7) (.tmp 21) rfl V5.heap.size (w8 TL).toArray rfl rfl 56 _ hA1 i56 z56 hTO ?_) | (refine wpList_store_row rfl 51 (.tmp 8) (.tmp 23) rfl (V5.heap.size + 1) (w8 TL).toArray rfl rfl 51 _ hA2 i51 z51 hTO ?_))
  have hB : Below V5.heap.size V5 ((((V5.alloc (.cells Tryd.zeroCells56 56)).alloc (.cells Tryd.zeroCells51 51)).setRow V5.heap.size (w8 TL).toArray).setRow (V5.heap.size + 1) (w8 TL).toArray) := below_setRow (below_setRow (((Below.refl _ _).alloc (Nat.le_refl _) _).alloc (by simp) _) (Nat.le_refl _) _) (by omega) _
  have B6 := Lib.hid (B5.out.trans (hB.mono B5.out.size))
  have S6 := Lib.hid (S5.out.below hB S5.out.lt)
  have I6 := Lib.hid (I5.out.below hB)
  have R6 := Lib.hid (R5.out.below hB)
  have X6 : Hid (Blk ((((V5.alloc (.cells Tryd.zeroCells56 56)).alloc (.cells Tryd.zeroCells51 51)).setRow V5.heap.size (w8 TL).toArray).setRow (V5.heap.size + 1) (w8 TL).toArray) V5.heap.size 56 (w8 TL)) := Lib.hid (by
    have h := setRow_heap ((V5.alloc (.cells Tryd.zeroCells56 56)).alloc (.cells Tryd.zeroCells51 51)) V5.heap.size _ (w8 TL).toArray _ _ hA1
    unfold Blk
    rw [setRow_other _ _ _ _ (by omega)]
    exact h)
  have Y6 : Hid (Blk ((((V5.alloc (.cells Tryd.zeroCells56 56)).alloc (.cells Tryd.zeroCells51 51)).setRow V5.heap.size (w8 TL).toArray).setRow (V5.heap.size + 1) (w8 TL).toArray) (V5.heap.size + 1) 51 (w8 TL)) := Lib.hid (setRow_heap _ (V5.heap.size + 1) _ (w8 TL).toArray _ _ hA2)
  have hgm5 : gm < V5.heap.size := R5.out.blk.lt
  clear hA1 hA2 i56 i51 hTO z56 z51 hB B5 S5 I5 R5
  generalize ((((V5.alloc (.cells Tryd.zeroCells56 56)).alloc (.cells Tryd.zeroCells51 51)).setRow V5.heap.size (w8 TL).toArray).setRow (V5.heap.size + 1) (w8 TL).toArray) = V6 at B6 S6 I6 R6 X6 Y6 ⊢
  obtain ⟨gy, hgy⟩ : ∃ x, V5.heap.size + 1 = x := ⟨_, rfl⟩
  rw [hgy] at Y6 ⊢
  generalize V5.heap.size = gx at X6 hgm5 hgy ⊢
  have HAR := Lib.hid S6.out.all
  go_wp2_with (first | (refine wpList_load_mid rfl 51 (.tmp 2) rfl hs 0 rfl (w8 S) _ HAR.out Tryd.underlying51 rfl HAS.out ?_))
  refine (to_any S V6 HL).mono ?_
  rintro e V7 ⟨rfl, hB⟩
  have B7 := Lib.hid (B6.out.trans (hB.mono B6.out.size))
  have S7 := Lib.hid (S6.out.below hB S6.out.lt)
  have I7 := Lib.hid (I6.out.below hB)
  have R7 := Lib.hid (R6.out.below hB)
  have X7 := Lib.hid (X6.out.below hB X6.out.lt)
  have Y7 := Lib.hid (Y6.out.below hB Y6.out.lt)
  clear hB HAR B6 S6 I6 R6 X6 Y6
  go_wp2_with fail
  have hB : Below V7.heap.size V7 (V7.alloc (.cells #[.int .u8 7] 5)) := (Below.refl _ _).alloc (Nat.le_refl _) _
  have B8 := Lib.hid (B7.out.trans (hB.mono B7.out.size))
  have S8 := Lib.hid (S7.out.below hB S7.out.lt)
  have I8 := Lib.hid (I7.out.below hB)
  have R8 := Lib.hid (R7.out.below hB)
  have X8 := Lib.hid (X7.out.below hB X7.out.lt)
  have Y8 := Lib.hid (Y7.out.below hB Y7.out.lt)
  have hgy7 : gy < V7.heap.size := Y7.out.lt
  have O8 : Hid (Oct.Own (V7.alloc (.cells #[.int .u8 7] 5)) V7.heap.size (.slice (some ⟨V7.heap.size, 0, none⟩) 1 1) (ints [7])) := Lib.hid ⟨by simp [Oct.byt, ints], .inr ⟨V7.heap.size, 1, #[.int .u8 7], rfl, Nat.le_refl _, heap_alloc_last V7 _, Nat.le_refl _, by unfold maxLen; omega, rfl, rfl⟩⟩
  clear hB B7 S7 I7 R7 X7 Y7
  generalize hV8 : V7.alloc (.cells #[.int .u8 7] 5) = V8 at B8 S8 I8 R8 X8 Y8 O8 ⊢
  have hV8s : V7.heap.size < V8.heap.size := by rw [← hV8]; simp
  clear hV8
  generalize V7.heap.size = g7 at O8 hgy7 hV8s ⊢
  refine (lay_lamp S _ g7 [7] V8 HL HP O8 (Nat.le_of_lt hV8s) (by simp)).mono ?_
  rintro e V9 ⟨v9, rfl, hO9, hg9, hL9⟩
  have hw7 : w.heap.size ≤ g7 := by omega
  have hg9 : V8.grownBy V9 (some g7) := hg9
  have B9 := Lib.hid (B8.out.grown hg9 B8.out.size (fun k hk => by simp at hk; omega))
  have hne9 : ∀ k, k < g7 → some k ≠ (Value.slice (some ⟨g7, 0, none⟩) 1 1).ownBlock := fun k hk he => by simp [Value.ownBlock] at he; omega
  have S9 := Lib.hid (S8.out.grown hg9 (hne9 _ (by omega)))
  have I9 := Lib.hid (I8.out.far hg9 (by omega))
  have R9 := Lib.hid (R8.out.far hg9 (by omega))
  have X9 := Lib.hid (X8.out.grown hg9 (hne9 _ (by omega)))
  have Y9 := Lib.hid (Y8.out.grown hg9 (hne9 _ (by omega)))
  clear hg9 hL9 hne9 B8 S8 I8 R8 X8 Y8 O8
  have hLL := layN_length S HL.out
  have hlen : (ints ([7] ++ layN S)).length = 1025 := by rw [ints_length, List.length_append, hLL]; rfl
  obtain ⟨A9, c9, hv9, hs9⟩ := hO9.src
  rw [hlen] at hv9
  obtain ⟨gp, cp, hvp, hgp7, hcp, hcpm, hpl⟩ : ∃ gp cp, v9 = .slice (some ⟨gp, 0, none⟩) 1025 cp ∧ g7 ≤ gp ∧ 1025 ≤ cp ∧ cp ≤ maxLen ∧ gp < V9.heap.size := by
    rcases hO9.2 with ⟨_, h⟩ | ⟨g, cap, cur, hv, hg, hgb, hn, hm, _⟩
    · rw [hlen] at h; cases h
    · rw [hlen] at hv hn
      exact ⟨g, cap, hv, hg, hn, hm, (Array.getElem?_eq_some_iff.1 hgb).1⟩
  rw [hvp] at hv9
  injection hv9 with e1 e2 e3
  subst e1 e3 hvp
  have P9 : Hid (Oct.Src V9 (some ⟨gp, 0, none⟩) cp (ints ([7] ++ layN S))) := Lib.hid hs9
  have Q9 : Hid (Oct.Src V9 (some ⟨gp, 0 + 1, none⟩) (cp - 1) (ints (layN S))) := Lib.hid (by
    refine ⟨fun h => (by cases h), .inr ⟨gp, 0 + 1, rfl, hpl, fun i hi => ?_⟩⟩
    rcases hs9.2 with h | ⟨b', off, h, _, hx⟩
    · rw [h] at hlen; cases hlen
    · injection h with h
      injection h with h1 h2
      subst h1 h2
      rw [ints_length] at hi
      have := hx (1 + i) (by rw [hlen]; omega)
      rw [Nat.add_assoc, this]
      simp [ints, List.getD, Nat.add_comm 1 i])
  have hcut := fun W => cutHi71 gp 0 1025 cp 1 (by omega) (by omega) hcp W
  rw [show ((1 : Nat) : Int) = 1 from rfl, show 1025 - 1 = 1024 from rfl] at hcut
  have hcpm2 : cp ≤ 9223372036854775807 := by unfold maxLen at hcpm; exact hcpm
  clear hs9 hO9 hlen hcpm e2
  go_wp2_with fail
  refine (Oct.of_any (some ⟨gp, 0 + 1, none⟩) (cp - 1) 1024 (ints (layN S)) V9 Q9 (Lib.hid (by rw [ints_length, hLL])) (by omega)).mono ?_
  rintro e V ⟨gk, rfl, hik, hB, hgk⟩
  have BV := Lib.hid (B9.out.trans (hB.mono B9.out.size))
  have SV := Lib.hid (S9.out.below hB S9.out.lt)
  have IV := Lib.hid (I9.out.below hB)
  have RV := Lib.hid (R9.out.below hB)
  have XV := Lib.hid (X9.out.below hB X9.out.lt)
  have YV := Lib.hid (Y9.out.below hB Y9.out.lt)
  have PV := Lib.hid (P9.out.below hB)
  have KV : Hid (InK V gk (layN S) 0) := Lib.hid (by unfold InK; rw [if_pos (by omega), Nat.mul_zero, List.drop_zero]; exact hik)
  have hgpk : gp < gk := by omega
  have hwk : w.heap.size ≤ gk := Nat.le_trans B9.out.size hgk
  have hord : hs < gk ∧ gx < gk ∧ gy < gk := ⟨by omega, by omega, by omega⟩
  clear hik hB hgk hcut B9 S9 I9 R9 X9 Y9 P9 Q9
  have HLEN : Hid ((ints ([7] ++ layN S)).length = 1025) := Lib.hid (by rw [ints_length, List.length_append, hLL]; rfl)
  have HLEN8 : Hid (([7] ++ layN S).length = 1025) := Lib.hid (by rw [List.length_append, hLL]; rfl)
  have HLT : Hid (∀ x ∈ [7] ++ layN S, x < 256) := Lib.hid (by
    intro x hx
    rcases List.mem_append.1 hx with hx | hx
    · simp at hx; omega
    · exact layN_lt S HP.out x hx)
  have MV := Lib.hid RV.out.blk
  have hord2 : gm < gk := by omega
  go_upto_region 7 with fail
  have hBz : Below V.heap.size V V.drew := below_drewN (Below.refl _ _) 1
  have BX0 : Hid (Below w.heap.size w V.drew) := Lib.hid (BV.out.trans (hBz.mono BV.out.size))
  have XX0 : Hid (Blk V.drew gx 56 (w8 TL)) := Lib.hid (XV.out.below hBz XV.out.lt)
  have YX0 : Hid (Blk V.drew gy 51 (w8 TL)) := Lib.hid (YV.out.below hBz YV.out.lt)
  have SX0 : Hid (Blk V.drew hs 51 (w8 S)) := Lib.hid (SV.out.below hBz SV.out.lt)
  have MX0 : Hid (Blk V.drew gm 68 [.slice A l.length c, .int .i64 ((rAt l.length 32 : Nat) : Int), .int .i64 ((rBad l.length 32 : Nat) : Int)]) := Lib.hid (MV.out.below hBz MV.out.lt)
  have PX0 : Hid (Oct.Src V.drew (some ⟨gp, 0, none⟩) cp (ints ([7] ++ layN S))) := Lib.hid (PV.out.below hBz)
  have IX0 : Hid (InK V.drew gi l 32) := Lib.hid (IV.out.below hBz)
  have RX0 : Hid (RefK V.drew gm A c l 32) := Lib.hid (RV.out.below hBz)
  have KX0 : Hid (InK V.drew gk (layN S) 0) := Lib.hid (KV.out.below hBz)
  clear hBz
  refine wp_region_held_drew (S := fun w' => Blk w' gx 56 (w8 TL) ∧ Blk w' gy 51 (w8 TL) ∧ Blk w' hs 51 (w8 S) ∧ Blk w' gm 68 [.slice A l.length c, .int .i64 ((rAt l.length 32 : Nat) : Int), .int .i64 ((rBad l.length 32 : Nat) : Int)] ∧ Oct.Src w' (some ⟨gp, 0, none⟩) cp (ints ([7] ++ layN S))) (by kernel_rfl) (⟨XX0.out, YX0.out, SX0.out, MX0.out, PX0.out⟩) (fun hHeld => ?_)
  generalize V.drew = X0 at hHeld BX0 XX0 YX0 SX0 MX0 PX0 IX0 RX0 KX0 ⊢
  refine wpAnyH_ready (rs := [0]) (by kernel_rfl) (by simp) ?_
  refine AllReadyH.cons rfl (fun K hK => ?_) AllReadyH.nil
  refine step_call rfl 21 #[] #[] rfl #[] (by simp) (by go_simp) (awake4_any X0 (Lib.hid (HTA.out.below BX0.out HTA.out.lt))) ?_
  rintro e X1 ⟨rfl, hB⟩
  have BX1 : Hid (Below w.heap.size w X1) := Lib.hid (BX0.out.trans (hB.mono BX0.out.size))
  have XX1 : Hid (Blk X1 gx 56 (w8 TL)) := Lib.hid (XX0.out.below hB XX0.out.lt)
  have YX1 : Hid (Blk X1 gy 51 (w8 TL)) := Lib.hid (YX0.out.below hB YX0.out.lt)
  have SX1 : Hid (Blk X1 hs 51 (w8 S)) := Lib.hid (SX0.out.below hB SX0.out.lt)
  have MX1 : Hid (Blk X1 gm 68 [.slice A l.length c, .int .i64 ((rAt l.length 32 : Nat) : Int), .int .i64 ((rBad l.length 32 : Nat) : Int)]) := Lib.hid (MX0.out.below hB MX0.out.lt)
  have PX1 : Hid (Oct.Src X1 (some ⟨gp, 0, none⟩) cp (ints ([7] ++ layN S))) := Lib.hid (PX0.out.below hB)
  have IX1 : Hid (InK X1 gi l 32) := Lib.hid (IX0.out.below hB)
  have RX1 : Hid (RefK X1 gm A c l 32) := Lib.hid (RX0.out.below hB)
  have KX1 : Hid (InK X1 gk (layN S) 0) := Lib.hid (KX0.out.below hB)
  clear BX0 XX0 YX0 SX0 MX0 PX0 IX0 RX0 KX0 hB
  refine ⟨_, rfl, hK.out _ _ (⟨XX1.out, YX1.out, SX1.out, MX1.out, PX1.out⟩) (fun hHeld => ?_)⟩
  clear hK K
  show wpAnyH _ _ _ _ _ _ _ (Act.put _ (some 34) _) _
  simp only [Act.put, List.setIfInBounds_toArray, List.set_cons_zero, List.set_cons_succ]
  refine wpAnyH_take (i := 1) (v := .bool true) rfl (by kernel_rfl) (by kernel_rfl) (by kernel_rfl) (fun _ _ _ h => h) (Or.inl ⟨by rfl, fun w _ => by rfl⟩) hHeld ?_
  show wpAnyH _ _ _ _ _ _ _ (Act.put _ (some 35) _) _
  simp only [Act.put, List.setIfInBounds_toArray, List.set_cons_zero, List.set_cons_succ]
  refine wpAnyH_take (i := 2) (v := .agg (w8 TL).toArray) rfl (by kernel_rfl) (by kernel_rfl) (by kernel_rfl) (fun _ _ _ h => h) (yieldsIf_load_mid rfl 56 (.tmp 7) rfl gx 0 rfl (w8 TL) _ (fun w' hS => hS.1.all) Tryd.underlying56 rfl (by rw [w8_length, HTL.out]; exact info56)) hHeld ?_
  show wpAnyH _ _ _ _ _ _ _ (Act.put _ (some 36) _) _
  simp only [Act.put, List.setIfInBounds_toArray, List.set_cons_zero, List.set_cons_succ]
  refine wpAnyH_take (i := 4) (v := .agg (w8 TL).toArray) rfl (by kernel_rfl) (by kernel_rfl) (by kernel_rfl) (fun _ _ _ h => h) (yieldsIf_load_mid rfl 51 (.tmp 8) rfl gy 0 rfl (w8 TL) _ (fun w' hS => hS.2.1.all) Tryd.underlying51 rfl (by rw [w8_length, HTL.out]; exact info51)) hHeld ?_
  show wpAnyH _ _ _ _ _ _ _ (Act.put _ (some 38) _) _
  simp only [Act.put, List.setIfInBounds_toArray, List.set_cons_zero, List.set_cons_succ]
  refine wpAnyH_ready (rs := [3]) (by kernel_rfl) (by simp) ?_
  refine AllReadyH.cons rfl (fun K hK => ?_) AllReadyH.nil
  refine step_call rfl 24 #[.tmp 36] #[56] rfl #[.agg (w8 TL).toArray] (by simp [Act.eval]) (by go_simp) (lfrom_any TL X1 HTL) ?_
  rintro e X2 ⟨rfl, hB⟩
  have BX2 : Hid (Below w.heap.size w X2) := Lib.hid (BX1.out.trans (hB.mono BX1.out.size))
  have XX2 : Hid (Blk X2 gx 56 (w8 TL)) := Lib.hid (XX1.out.below hB XX1.out.lt)
  have YX2 : Hid (Blk X2 gy 51 (w8 TL)) := Lib.hid (YX1.out.below hB YX1.out.lt)
  have SX2 : Hid (Blk X2 hs 51 (w8 S)) := Lib.hid (SX1.out.below hB SX1.out.lt)
  have MX2 : Hid (Blk X2 gm 68 [.slice A l.length c, .int .i64 ((rAt l.length 32 : Nat) : Int), .int .i64 ((rBad l.length 32 : Nat) : Int)]) := Lib.hid (MX1.out.below hB MX1.out.lt)
  have PX2 : Hid (Oct.Src X2 (some ⟨gp, 0, none⟩) cp (ints ([7] ++ layN S))) := Lib.hid (PX1.out.below hB)
  have IX2 : Hid (InK X2 gi l 32) := Lib.hid (IX1.out.below hB)
  have RX2 : Hid (RefK X2 gm A c l 32) := Lib.hid (RX1.out.below hB)
  have KX2 : Hid (InK X2 gk (layN S) 0) := Lib.hid (KX1.out.below hB)
  clear BX1 XX1 YX1 SX1 MX1 PX1 IX1 RX1 KX1 hB
  refine ⟨_, rfl, hK.out _ _ (⟨XX2.out, YX2.out, SX2.out, MX2.out, PX2.out⟩) (fun hHeld => ?_)⟩
  clear hK K
  show wpAnyH _ _ _ _ _ _ _ (Act.put _ (some 37) _) _
  simp only [Act.put, List.setIfInBounds_toArray, List.set_cons_zero, List.set_cons_succ]
  refine wpAnyH_take (i := 5) (v := .bool true) rfl (by kernel_rfl) (by kernel_rfl) (by kernel_rfl) (fun _ _ _ h => h) (Or.inl ⟨by rfl, fun w' hS => run_bin_op rfl (by kernel_rfl) (w8 TL).toArray (w8 TL).toArray rfl rfl _ w' (eql_sig TL HTL.out w')⟩) hHeld ?_
  show wpAnyH _ _ _ _ _ _ _ (Act.put _ (some 39) _) _
  simp only [Act.put, List.setIfInBounds_toArray, List.set_cons_zero, List.set_cons_succ]
  refine wpAnyH_take (i := 6) (v := .bool true) rfl (by kernel_rfl) (by kernel_rfl) (by kernel_rfl) (fun _ _ _ h => h) (Or.inl ⟨by rfl, by intro w hSw; first | rfl | go_simp⟩) hHeld ?_
  show wpAnyH _ _ _ _ _ _ _ (Act.put _ (some 40) _) _
  simp only [Act.put, List.setIfInBounds_toArray, List.set_cons_zero, List.set_cons_succ]
  refine wpAnyH_take (i := 7) (v := .bool true) rfl (by kernel_rfl) (by kernel_rfl) (by kernel_rfl) (fun _ _ _ h => h) (Or.inl ⟨by rfl, fun w _ => by rfl⟩) hHeld ?_
  show wpAnyH _ _ _ _ _ _ _ (Act.put _ (some 41) _) _
  simp only [Act.put, List.setIfInBounds_toArray, List.set_cons_zero, List.set_cons_succ]
  refine wpAnyH_take (i := 8) (v := .pointer (some ⟨gi, 0, none⟩)) rfl (by kernel_rfl) (by kernel_rfl) (by kernel_rfl) (fun _ _ _ h => h) (Or.inl ⟨by rfl, fun w _ => by rfl⟩) hHeld ?_
  show wpAnyH _ _ _ _ _ _ _ (Act.put _ (some 42) _) _
  simp only [Act.put, List.setIfInBounds_toArray, List.set_cons_zero, List.set_cons_succ]
  refine wpAnyH_take (i := 10) (v := .pointer (some ⟨gm, 0, none⟩)) rfl (by kernel_rfl) (by kernel_rfl) (by kernel_rfl) (fun _ _ _ h => h) (Or.inl ⟨by rfl, fun w _ => by rfl⟩) hHeld ?_
  show wpAnyH _ _ _ _ _ _ _ (Act.put _ (some 44) _) _
  simp only [Act.put, List.setIfInBounds_toArray, List.set_cons_zero, List.set_cons_succ]
  refine wpAnyH_take (i := 11) (v := .pointer (some ⟨gm, 0, none⟩)) rfl (by kernel_rfl) (by kernel_rfl) (by kernel_rfl) (fun _ _ _ h => h) (Or.inl ⟨by rfl, by intro w' h; go_simp⟩) hHeld ?_
  show wpAnyH _ _ _ _ _ _ _ (Act.put _ (some 45) _) _
  simp only [Act.put, List.setIfInBounds_toArray, List.set_cons_zero, List.set_cons_succ]
  refine wpAnyH_take (i := 12) (v := .pointer (some ⟨gm, 2, none⟩)) rfl (by kernel_rfl) (by kernel_rfl) (by kernel_rfl) (fun _ _ _ h => h) (Or.inl ⟨by rfl, by intro w' h; go_simp⟩) hHeld ?_
  show wpAnyH _ _ _ _ _ _ _ (Act.put _ (some 46) _) _
  simp only [Act.put, List.setIfInBounds_toArray, List.set_cons_zero, List.set_cons_succ]
  refine wpAnyH_take (i := 13) (v := .int .i64 ((rBad l.length 32 : Nat) : Int)) rfl (by kernel_rfl) (by kernel_rfl) (by kernel_rfl) (fun _ _ _ h => h) (Or.inl ⟨by rfl, by intro w' hS; have k0 := Blk.cell hS.2.2.2.1 2; simp only [List.getElem?_cons_zero, List.getElem?_cons_succ] at k0; go_simp⟩) hHeld ?_
  show wpAnyH _ _ _ _ _ _ _ (Act.put _ (some 47) _) _
  simp only [Act.put, List.setIfInBounds_toArray, List.set_cons_zero, List.set_cons_succ]
  refine wpAnyH_ready (rs := [9]) (by kernel_rfl) (by simp) ?_
  refine AllReadyH.cons rfl (fun K hK => ?_) AllReadyH.nil
  refine step_call rfl 34 #[.tmp 42] #[64] rfl #[.pointer (some ⟨gi, 0, none⟩)] (by simp [Act.eval]) (by go_simp) (bad_k gi l X2 IX2) ?_
  rintro e X3 ⟨rfl, hB⟩
  have BX3 : Hid (Below w.heap.size w X3) := Lib.hid (BX2.out.trans (hB.mono BX2.out.size))
  have XX3 : Hid (Blk X3 gx 56 (w8 TL)) := Lib.hid (XX2.out.below hB XX2.out.lt)
  have YX3 : Hid (Blk X3 gy 51 (w8 TL)) := Lib.hid (YX2.out.below hB YX2.out.lt)
  have SX3 : Hid (Blk X3 hs 51 (w8 S)) := Lib.hid (SX2.out.below hB SX2.out.lt)
  have MX3 : Hid (Blk X3 gm 68 [.slice A l.length c, .int .i64 ((rAt l.length 32 : Nat) : Int), .int .i64 ((rBad l.length 32 : Nat) : Int)]) := Lib.hid (MX2.out.below hB MX2.out.lt)
  have PX3 : Hid (Oct.Src X3 (some ⟨gp, 0, none⟩) cp (ints ([7] ++ layN S))) := Lib.hid (PX2.out.below hB)
  have IX3 : Hid (InK X3 gi l 32) := Lib.hid (IX2.out.below hB)
  have RX3 : Hid (RefK X3 gm A c l 32) := Lib.hid (RX2.out.below hB)
  have KX3 : Hid (InK X3 gk (layN S) 0) := Lib.hid (KX2.out.below hB)
  clear BX2 XX2 YX2 SX2 MX2 PX2 IX2 RX2 KX2 hB
  refine ⟨_, rfl, hK.out _ _ (⟨XX3.out, YX3.out, SX3.out, MX3.out, PX3.out⟩) (fun hHeld => ?_)⟩
  clear hK K
  show wpAnyH _ _ _ _ _ _ _ (Act.put _ (some 43) _) _
  simp only [Act.put, List.setIfInBounds_toArray, List.set_cons_zero, List.set_cons_succ]
  refine wpAnyH_take (i := 14) (v := .bool true) rfl (by kernel_rfl) (by kernel_rfl) (by kernel_rfl) (fun _ _ _ h => h) (Or.inl ⟨by rfl, by intro w' h; go_simp⟩) hHeld ?_
  show wpAnyH _ _ _ _ _ _ _ (Act.put _ (some 48) _) _
  simp only [Act.put, List.setIfInBounds_toArray, List.set_cons_zero, List.set_cons_succ]
  refine wpAnyH_take (i := 15) (v := .bool true) rfl (by kernel_rfl) (by kernel_rfl) (by kernel_rfl) (fun _ _ _ h => h) (Or.inl ⟨by rfl, by intro w hSw; first | rfl | go_simp⟩) hHeld ?_
  show wpAnyH _ _ _ _ _ _ _ (Act.put _ (some 49) _) _
  simp only [Act.put, List.setIfInBounds_toArray, List.set_cons_zero, List.set_cons_succ]
  refine wpAnyH_take (i := 16) (v := .bool true) rfl (by kernel_rfl) (by kernel_rfl) (by kernel_rfl) (fun _ _ _ h => h) (Or.inl ⟨by rfl, fun w _ => by rfl⟩) hHeld ?_
  show wpAnyH _ _ _ _ _ _ _ (Act.put _ (some 50) _) _
  simp only [Act.put, List.setIfInBounds_toArray, List.set_cons_zero, List.set_cons_succ]
  refine wpAnyH_take (i := 17) (v := .pointer (some ⟨gi, 0, none⟩)) rfl (by kernel_rfl) (by kernel_rfl) (by kernel_rfl) (fun _ _ _ h => h) (Or.inl ⟨by rfl, fun w _ => by rfl⟩) hHeld ?_
  show wpAnyH _ _ _ _ _ _ _ (Act.put _ (some 51) _) _
  simp only [Act.put, List.setIfInBounds_toArray, List.set_cons_zero, List.set_cons_succ]
  refine wpAnyH_take (i := 19) (v := .pointer (some ⟨gm, 0, none⟩)) rfl (by kernel_rfl) (by kernel_rfl) (by kernel_rfl) (fun _ _ _ h => h) (Or.inl ⟨by rfl, fun w _ => by rfl⟩) hHeld ?_
  show wpAnyH _ _ _ _ _ _ _ (Act.put _ (some 53) _) _
  simp only [Act.put, List.setIfInBounds_toArray, List.set_cons_zero, List.set_cons_succ]
  refine wpAnyH_ready (rs := [18]) (by kernel_rfl) (by simp) ?_
  refine AllReadyH.cons rfl (fun K hK => ?_) AllReadyH.nil
  refine step_call rfl 35 #[.tmp 51] #[64] rfl #[.pointer (some ⟨gi, 0, none⟩)] (by simp [Act.eval]) (by go_simp) (left_k gi l X3 IX3) ?_
  rintro e X4 ⟨rfl, hB⟩
  have BX4 : Hid (Below w.heap.size w X4) := Lib.hid (BX3.out.trans (hB.mono BX3.out.size))
  have XX4 : Hid (Blk X4 gx 56 (w8 TL)) := Lib.hid (XX3.out.below hB XX3.out.lt)
  have YX4 : Hid (Blk X4 gy 51 (w8 TL)) := Lib.hid (YX3.out.below hB YX3.out.lt)
  have SX4 : Hid (Blk X4 hs 51 (w8 S)) := Lib.hid (SX3.out.below hB SX3.out.lt)
  have MX4 : Hid (Blk X4 gm 68 [.slice A l.length c, .int .i64 ((rAt l.length 32 : Nat) : Int), .int .i64 ((rBad l.length 32 : Nat) : Int)]) := Lib.hid (MX3.out.below hB MX3.out.lt)
  have PX4 : Hid (Oct.Src X4 (some ⟨gp, 0, none⟩) cp (ints ([7] ++ layN S))) := Lib.hid (PX3.out.below hB)
  have IX4 : Hid (InK X4 gi l 32) := Lib.hid (IX3.out.below hB)
  have RX4 : Hid (RefK X4 gm A c l 32) := Lib.hid (RX3.out.below hB)
  have KX4 : Hid (InK X4 gk (layN S) 0) := Lib.hid (KX3.out.below hB)
  clear BX3 XX3 YX3 SX3 MX3 PX3 IX3 RX3 KX3 hB
  refine ⟨_, rfl, hK.out _ _ (⟨XX4.out, YX4.out, SX4.out, MX4.out, PX4.out⟩) (fun hHeld => ?_)⟩
  clear hK K
  show wpAnyH _ _ _ _ _ _ _ (Act.put _ (some 52) _) _
  simp only [Act.put, List.setIfInBounds_toArray, List.set_cons_zero, List.set_cons_succ]
  refine wpAnyH_ready (rs := [20]) (by kernel_rfl) (by simp) ?_
  refine AllReadyH.cons rfl (fun K hK => ?_) AllReadyH.nil
  refine step_call rfl 36 #[.tmp 53] #[66] rfl #[.pointer (some ⟨gm, 0, none⟩)] (by simp [Act.eval]) (by go_simp) (rleft_any gm A c l X4 RX4 (by omega)) ?_
  rintro e X5 ⟨rfl, hB⟩
  have BX5 : Hid (Below w.heap.size w X5) := Lib.hid (BX4.out.trans (hB.mono BX4.out.size))
  have XX5 : Hid (Blk X5 gx 56 (w8 TL)) := Lib.hid (XX4.out.below hB XX4.out.lt)
  have YX5 : Hid (Blk X5 gy 51 (w8 TL)) := Lib.hid (YX4.out.below hB YX4.out.lt)
  have SX5 : Hid (Blk X5 hs 51 (w8 S)) := Lib.hid (SX4.out.below hB SX4.out.lt)
  have MX5 : Hid (Blk X5 gm 68 [.slice A l.length c, .int .i64 ((rAt l.length 32 : Nat) : Int), .int .i64 ((rBad l.length 32 : Nat) : Int)]) := Lib.hid (MX4.out.below hB MX4.out.lt)
  have PX5 : Hid (Oct.Src X5 (some ⟨gp, 0, none⟩) cp (ints ([7] ++ layN S))) := Lib.hid (PX4.out.below hB)
  have IX5 : Hid (InK X5 gi l 32) := Lib.hid (IX4.out.below hB)
  have RX5 : Hid (RefK X5 gm A c l 32) := Lib.hid (RX4.out.below hB)
  have KX5 : Hid (InK X5 gk (layN S) 0) := Lib.hid (KX4.out.below hB)
  clear BX4 XX4 YX4 SX4 MX4 PX4 IX4 RX4 KX4 hB
  refine ⟨_, rfl, hK.out _ _ (⟨XX5.out, YX5.out, SX5.out, MX5.out, PX5.out⟩) (fun hHeld => ?_)⟩
  clear hK K
  show wpAnyH _ _ _ _ _ _ _ (Act.put _ (some 54) _) _
  simp only [Act.put, List.setIfInBounds_toArray, List.set_cons_zero, List.set_cons_succ]
  refine wpAnyH_take (i := 21) (v := .bool true) rfl (by kernel_rfl) (by kernel_rfl) (by kernel_rfl) (fun _ _ _ h => h) (Or.inl ⟨by rfl, by intro w' h; go_simp⟩) hHeld ?_
  show wpAnyH _ _ _ _ _ _ _ (Act.put _ (some 55) _) _
  simp only [Act.put, List.setIfInBounds_toArray, List.set_cons_zero, List.set_cons_succ]
  refine wpAnyH_take (i := 22) (v := .bool true) rfl (by kernel_rfl) (by kernel_rfl) (by kernel_rfl) (fun _ _ _ h => h) (Or.inl ⟨by rfl, by intro w hSw; first | rfl | go_simp⟩) hHeld ?_
  show wpAnyH _ _ _ _ _ _ _ (Act.put _ (some 56) _) _
  simp only [Act.put, List.setIfInBounds_toArray, List.set_cons_zero, List.set_cons_succ]
  refine wpAnyH_take (i := 23) (v := .bool true) rfl (by kernel_rfl) (by kernel_rfl) (by kernel_rfl) (fun _ _ _ h => h) (Or.inl ⟨by rfl, fun w _ => by rfl⟩) hHeld ?_
  show wpAnyH _ _ _ _ _ _ _ (Act.put _ (some 57) _) _
  simp only [Act.put, List.setIfInBounds_toArray, List.set_cons_zero, List.set_cons_succ]
  refine wpAnyH_take (i := 24) (v := .slice (some ⟨gp, 0, none⟩) 1025 cp) rfl (by kernel_rfl) (by kernel_rfl) (by kernel_rfl) (fun _ _ _ h => h) (Or.inl ⟨by rfl, fun w _ => by rfl⟩) hHeld ?_
  show wpAnyH _ _ _ _ _ _ _ (Act.put _ (some 58) _) _
  simp only [Act.put, List.setIfInBounds_toArray, List.set_cons_zero, List.set_cons_succ]
  refine wpAnyH_take (i := 25) (v := .string (Oct.txt (ints ([7] ++ layN S)))) rfl (by kernel_rfl) (by kernel_rfl) (by kernel_rfl) (fun _ _ _ h => h) (Or.inl ⟨by rfl, by intro w' hS; have hk := Oct.to_string w' (some ⟨gp, 0, none⟩) cp 1025 (ints ([7] ++ layN S)) HLEN.out.symm hS.2.2.2.2; go_simp⟩) hHeld ?_
  show wpAnyH _ _ _ _ _ _ _ (Act.put _ (some 59) _) _
  simp only [Act.put, List.setIfInBounds_toArray, List.set_cons_zero, List.set_cons_succ]
  refine wpAnyH_take (i := 27) (v := .agg (w8 S).toArray) rfl (by kernel_rfl) (by kernel_rfl) (by kernel_rfl) (fun _ _ _ h => h) (yieldsIf_load_mid rfl 51 (.tmp 2) rfl hs 0 rfl (w8 S) _ (fun w' hS => hS.2.2.1.all) Tryd.underlying51 rfl (by rw [w8_length, HL.out]; exact info51)) hHeld ?_
  show wpAnyH _ _ _ _ _ _ _ (Act.put _ (some 61) _) _
  simp only [Act.put, List.setIfInBounds_toArray, List.set_cons_zero, List.set_cons_succ]
  refine wpAnyH_ready (rs := [26]) (by kernel_rfl) (by simp) ?_
  refine AllReadyH.cons rfl (fun K hK => ?_) AllReadyH.nil
  refine step_lay8 rfl 30 1 #[(0, .const (.int .u8 7))] rfl #[(0, .int .u8 7)] (by simp [Act.eval]) #[.int .u8 7] 5 (by kernel_rfl) ?_
  have hB : Below X5.heap.size X5 (X5.alloc (.cells #[.int .u8 7] 5)) := (Below.refl _ _).alloc (Nat.le_refl _) _
  have hQ : Blk (X5.alloc (.cells #[.int .u8 7] 5)) X5.heap.size 5 (w8 [7]) := Blk.new X5 5 (w8 [7])
  generalize X5.alloc (.cells #[.int .u8 7] 5) = X6 at hB hQ ⊢
  obtain ⟨gq, hgq⟩ : ∃ x, X5.heap.size = x := ⟨_, rfl⟩
  rw [hgq] at hQ ⊢
  have BX6 : Hid (Below w.heap.size w X6) := Lib.hid (BX5.out.trans (hB.mono BX5.out.size))
  have XX6 : Hid (Blk X6 gx 56 (w8 TL)) := Lib.hid (XX5.out.below hB XX5.out.lt)
  have YX6 : Hid (Blk X6 gy 51 (w8 TL)) := Lib.hid (YX5.out.below hB YX5.out.lt)
  have SX6 : Hid (Blk X6 hs 51 (w8 S)) := Lib.hid (SX5.out.below hB SX5.out.lt)
  have MX6 : Hid (Blk X6 gm 68 [.slice A l.length c, .int .i64 ((rAt l.length 32 : Nat) : Int), .int .i64 ((rBad l.length 32 : Nat) : Int)]) := Lib.hid (MX5.out.below hB MX5.out.lt)
  have PX6 : Hid (Oct.Src X6 (some ⟨gp, 0, none⟩) cp (ints ([7] ++ layN S))) := Lib.hid (PX5.out.below hB)
  have IX6 : Hid (InK X6 gi l 32) := Lib.hid (IX5.out.below hB)
  have RX6 : Hid (RefK X6 gm A c l 32) := Lib.hid (RX5.out.below hB)
  have KX6 : Hid (InK X6 gk (layN S) 0) := Lib.hid (KX5.out.below hB)
  have QX6 : Hid (Blk X6 gq 5 (w8 [7])) := Lib.hid (hQ)
  clear BX5 XX5 YX5 SX5 MX5 PX5 IX5 RX5 KX5 hB hQ hgq
  refine hK.out _ _ (⟨XX6.out, YX6.out, SX6.out, MX6.out, PX6.out⟩) (fun hHeld => ?_)
  clear hK K
  show wpAnyH _ _ _ _ _ _ _ (Act.put _ (some 60) _) _
  simp only [Act.put, List.setIfInBounds_toArray, List.set_cons_zero, List.set_cons_succ]
  refine wpAnyH_ready (rs := [28]) (by kernel_rfl) (by simp) ?_
  refine AllReadyH.cons rfl (fun K hK => ?_) AllReadyH.nil
  refine step_call rfl 37 #[.tmp 60, .tmp 61] #[30, 51] rfl #[.slice (some ⟨gq, 0, none⟩) 1 1, .agg (w8 S).toArray] (by simp [Act.eval]) (by go_simp) (rlay_any S (some ⟨gq, 0, none⟩) 1 1 [7] X6 HL HP (Lib.hid (Src.blk (rest := []) (by rw [List.append_nil]; exact QX6.out) (by have := QX6.out.lt; omega) (by simp) 1 (by simp))) (Lib.hid rfl) (by omega)) ?_
  rintro e X7 ⟨v8, rfl, hO8, hB⟩
  obtain ⟨A8, c8, hv8, hc8, hs8⟩ := hO8.srcB (b := X7.heap.size) (Nat.le_refl _) HLT.out
  rw [HLEN8.out] at hv8
  subst hv8
  have hz8 : Oct.Src X7 A8 c8 (ints ([7] ++ layN S)) := hs8.toOct (fun e => by rw [e] at hs8; exact absurd hs8 (no_nil HLEN8.out))
  have BX7 : Hid (Below w.heap.size w X7) := Lib.hid (BX6.out.trans (hB.mono BX6.out.size))
  have XX7 : Hid (Blk X7 gx 56 (w8 TL)) := Lib.hid (XX6.out.below hB XX6.out.lt)
  have YX7 : Hid (Blk X7 gy 51 (w8 TL)) := Lib.hid (YX6.out.below hB YX6.out.lt)
  have SX7 : Hid (Blk X7 hs 51 (w8 S)) := Lib.hid (SX6.out.below hB SX6.out.lt)
  have MX7 : Hid (Blk X7 gm 68 [.slice A l.length c, .int .i64 ((rAt l.length 32 : Nat) : Int), .int .i64 ((rBad l.length 32 : Nat) : Int)]) := Lib.hid (MX6.out.below hB MX6.out.lt)
  have PX7 : Hid (Oct.Src X7 (some ⟨gp, 0, none⟩) cp (ints ([7] ++ layN S))) := Lib.hid (PX6.out.below hB)
  have IX7 : Hid (InK X7 gi l 32) := Lib.hid (IX6.out.below hB)
  have RX7 : Hid (RefK X7 gm A c l 32) := Lib.hid (RX6.out.below hB)
  have KX7 : Hid (InK X7 gk (layN S) 0) := Lib.hid (KX6.out.below hB)
  have QX7 : Hid (Blk X7 gq 5 (w8 [7])) := Lib.hid (QX6.out.below hB QX6.out.lt)
  have ZX7 : Hid (Oct.Src X7 A8 c8 (ints ([7] ++ layN S))) := Lib.hid (hz8)
  clear BX6 XX6 YX6 SX6 MX6 PX6 IX6 RX6 KX6 QX6 hB hO8 hc8 hs8 hz8
  refine ⟨_, rfl, hK.out _ _ (⟨XX7.out, YX7.out, SX7.out, MX7.out, PX7.out⟩) (fun hHeld => ?_)⟩
  clear hK K
  show wpAnyH _ _ _ _ _ _ _ (Act.put _ (some 62) _) _
  simp only [Act.put, List.setIfInBounds_toArray, List.set_cons_zero, List.set_cons_succ]
  refine wpAnyH_ready (rs := [29]) (by kernel_rfl) (by simp) ?_
  refine AllReadyH.cons rfl (fun K hK => ?_) AllReadyH.nil
  refine step_conv rfl 30 9 (.tmp 62) rfl (.slice A8 1025 c8) (.string (Oct.txt (ints ([7] ++ layN S)))) rfl (to_string8 X7 A8 c8 1025 _ HLEN.out.symm ZX7.out) ?_
  refine hK.out _ _ (⟨XX7.out, YX7.out, SX7.out, MX7.out, PX7.out⟩) (fun hHeld => ?_)
  clear hK K
  show wpAnyH _ _ _ _ _ _ _ (Act.put _ (some 63) _) _
  simp only [Act.put, List.setIfInBounds_toArray, List.set_cons_zero, List.set_cons_succ]
  refine wpAnyH_take (i := 30) (v := .bool true) rfl (by kernel_rfl) (by kernel_rfl) (by kernel_rfl) (fun _ _ _ h => h) (Or.inl ⟨by rfl, by intro w' h; go_simp⟩) hHeld ?_
  show wpAnyH _ _ _ _ _ _ _ (Act.put _ (some 64) _) _
  simp only [Act.put, List.setIfInBounds_toArray, List.set_cons_zero, List.set_cons_succ]
  refine wpAnyH_take (i := 31) (v := .bool true) rfl (by kernel_rfl) (by kernel_rfl) (by kernel_rfl) (fun _ _ _ h => h) (Or.inl ⟨by rfl, by intro w hSw; first | rfl | go_simp⟩) hHeld ?_
  show wpAnyH _ _ _ _ _ _ _ (Act.put _ (some 65) _) _
  simp only [Act.put, List.setIfInBounds_toArray, List.set_cons_zero, List.set_cons_succ]
  refine wpAnyH_take (i := 32) (v := .bool true) rfl (by kernel_rfl) (by kernel_rfl) (by kernel_rfl) (fun _ _ _ h => h) (Or.inl ⟨by rfl, fun w _ => by rfl⟩) hHeld ?_
  show wpAnyH _ _ _ _ _ _ _ (Act.put _ (some 66) _) _
  simp only [Act.put, List.setIfInBounds_toArray, List.set_cons_zero, List.set_cons_succ]
  refine wpAnyH_take (i := 33) (v := .pointer (some ⟨gk, 0, none⟩)) rfl (by kernel_rfl) (by kernel_rfl) (by kernel_rfl) (fun _ _ _ h => h) (Or.inl ⟨by rfl, fun w _ => by rfl⟩) hHeld ?_
  show wpAnyH _ _ _ _ _ _ _ (Act.put _ (some 67) _) _
  simp only [Act.put, List.setIfInBounds_toArray, List.set_cons_zero, List.set_cons_succ]
  refine wpAnyH_take (i := 36) (v := .agg (w8 S).toArray) rfl (by kernel_rfl) (by kernel_rfl) (by kernel_rfl) (fun _ _ _ h => h) (yieldsIf_load_mid rfl 51 (.tmp 2) rfl hs 0 rfl (w8 S) _ (fun w' hS => hS.2.2.1.all) Tryd.underlying51 rfl (by rw [w8_length, HL.out]; exact info51)) hHeld ?_
  show wpAnyH _ _ _ _ _ _ _ (Act.put _ (some 70) _) _
  simp only [Act.put, List.setIfInBounds_toArray, List.set_cons_zero, List.set_cons_succ]
  refine wpAnyH_ready (rs := [34]) (by kernel_rfl) (by simp) ?_
  refine AllReadyH.cons rfl (fun K hK => ?_) AllReadyH.nil
  refine step_call rfl 31 #[.tmp 67] #[64] rfl #[.pointer (some ⟨gk, 0, none⟩)] (by simp [Act.eval]) (by go_simp) (take_back gk S X7 HL KX7) ?_
  rintro e X9 ⟨rfl, hi, hO⟩
  have hSK : some hs ≠ some gk := fun e => by injection e with e; omega
  have hXK : some gx ≠ some gk := fun e => by injection e with e; omega
  have hYK : some gy ≠ some gk := fun e => by injection e with e; omega
  have hMK : some gm ≠ some gk := fun e => by injection e with e; omega
  have hPK : (ints ([7] ++ layN S)) ≠ [] → ∀ a, (some ⟨gp, 0, none⟩ : Option Addr) = some a → a.block ≠ gk := fun _ a ha => by injection ha with ha; rw [← ha]; show gp ≠ gk; omega
  have BX9 : Hid (Below w.heap.size w X9) := Lib.hid (BX7.out.trans (only_up hO hwk BX7.out.size))
  have XX9 : Hid (Blk X9 gx 56 (w8 TL)) := Lib.hid (XX7.out.grown hO hXK)
  have YX9 : Hid (Blk X9 gy 51 (w8 TL)) := Lib.hid (YX7.out.grown hO hYK)
  have SX9 : Hid (Blk X9 hs 51 (w8 S)) := Lib.hid (SX7.out.grown hO hSK)
  have MX9 : Hid (Blk X9 gm 68 [.slice A l.length c, .int .i64 ((rAt l.length 32 : Nat) : Int), .int .i64 ((rBad l.length 32 : Nat) : Int)]) := Lib.hid (MX7.out.grown hO hMK)
  have PX9 : Hid (Oct.Src X9 (some ⟨gp, 0, none⟩) cp (ints ([7] ++ layN S))) := Lib.hid (PX7.out.farG hO hPK)
  have KX9 : Hid (Oct.InAt X9 gk []) := Lib.hid (hi)
  clear BX7 XX7 YX7 SX7 MX7 PX7 hO hi hSK hXK hYK hMK hPK
  refine ⟨_, rfl, hK.out _ _ (⟨XX9.out, YX9.out, SX9.out, MX9.out, PX9.out⟩) (fun hHeld => ?_)⟩
  clear hK K
  show wpAnyH _ _ _ _ _ _ _ (Act.put _ (some 68) _) _
  simp only [Act.put, List.setIfInBounds_toArray, List.set_cons_zero, List.set_cons_succ]
  refine wpAnyH_ready (rs := [35]) (by kernel_rfl) (by simp) ?_
  refine AllReadyH.cons rfl (fun K hK => ?_) AllReadyH.nil
  refine step_call rfl 24 #[.tmp 68] #[56] rfl #[.agg (w8 S).toArray] (by simp [Act.eval]) (by go_simp) (lfrom_any S X9 HL) ?_
  rintro e X10 ⟨rfl, hB⟩
  have BX10 : Hid (Below w.heap.size w X10) := Lib.hid (BX9.out.trans (hB.mono BX9.out.size))
  have XX10 : Hid (Blk X10 gx 56 (w8 TL)) := Lib.hid (XX9.out.below hB XX9.out.lt)
  have YX10 : Hid (Blk X10 gy 51 (w8 TL)) := Lib.hid (YX9.out.below hB YX9.out.lt)
  have SX10 : Hid (Blk X10 hs 51 (w8 S)) := Lib.hid (SX9.out.below hB SX9.out.lt)
  have MX10 : Hid (Blk X10 gm 68 [.slice A l.length c, .int .i64 ((rAt l.length 32 : Nat) : Int), .int .i64 ((rBad l.length 32 : Nat) : Int)]) := Lib.hid (MX9.out.below hB MX9.out.lt)
  have PX10 : Hid (Oct.Src X10 (some ⟨gp, 0, none⟩) cp (ints ([7] ++ layN S))) := Lib.hid (PX9.out.below hB)
  have KX10 : Hid (Oct.InAt X10 gk []) := Lib.hid (KX9.out.below hB)
  clear BX9 XX9 YX9 SX9 MX9 PX9 KX9 hB
  refine ⟨_, rfl, hK.out _ _ (⟨XX10.out, YX10.out, SX10.out, MX10.out, PX10.out⟩) (fun hHeld => ?_)⟩
  clear hK K
  show wpAnyH _ _ _ _ _ _ _ (Act.put _ (some 69) _) _
  simp only [Act.put, List.setIfInBounds_toArray, List.set_cons_zero, List.set_cons_succ]
  refine wpAnyH_take (i := 37) (v := .bool true) rfl (by kernel_rfl) (by kernel_rfl) (by kernel_rfl) (fun _ _ _ h => h) (Or.inl ⟨by rfl, fun w' hS => run_bin_op rfl (by kernel_rfl) (w8 S).toArray (w8 S).toArray rfl rfl _ w' (eql_sig S HL.out w')⟩) hHeld ?_
  show wpAnyH _ _ _ _ _ _ _ (Act.put _ (some 71) _) _
  simp only [Act.put, List.setIfInBounds_toArray, List.set_cons_zero, List.set_cons_succ]
  refine wpAnyH_take (i := 38) (v := .bool true) rfl (by kernel_rfl) (by kernel_rfl) (by kernel_rfl) (fun _ _ _ h => h) (Or.inl ⟨by rfl, by intro w hSw; first | rfl | go_simp⟩) hHeld ?_
  show wpAnyH _ _ _ _ _ _ _ (Act.put _ (some 72) _) _
  simp only [Act.put, List.setIfInBounds_toArray, List.set_cons_zero, List.set_cons_succ]
  refine wpAnyH_take (i := 39) (v := .bool true) rfl (by kernel_rfl) (by kernel_rfl) (by kernel_rfl) (fun _ _ _ h => h) (Or.inl ⟨by rfl, fun w _ => by rfl⟩) hHeld ?_
  show wpAnyH _ _ _ _ _ _ _ (Act.put _ (some 73) _) _
  simp only [Act.put, List.setIfInBounds_toArray, List.set_cons_zero, List.set_cons_succ]
  refine wpAnyH_take (i := 40) (v := .pointer (some ⟨gk, 0, none⟩)) rfl (by kernel_rfl) (by kernel_rfl) (by kernel_rfl) (fun _ _ _ h => h) (Or.inl ⟨by rfl, fun w _ => by rfl⟩) hHeld ?_
  show wpAnyH _ _ _ _ _ _ _ (Act.put _ (some 74) _) _
  simp only [Act.put, List.setIfInBounds_toArray, List.set_cons_zero, List.set_cons_succ]
  refine wpAnyH_ready (rs := [41]) (by kernel_rfl) (by simp) ?_
  refine AllReadyH.cons rfl (fun K hK => ?_) AllReadyH.nil
  refine step_call rfl 38 #[.tmp 74] #[64] rfl #[.pointer (some ⟨gk, 0, none⟩)] (by simp [Act.eval]) (by go_simp) (end_k gk X10 KX10) ?_
  rintro e X11 ⟨rfl, hB⟩
  have BX11 : Hid (Below w.heap.size w X11) := Lib.hid (BX10.out.trans (hB.mono BX10.out.size))
  have XX11 : Hid (Blk X11 gx 56 (w8 TL)) := Lib.hid (XX10.out.below hB XX10.out.lt)
  have YX11 : Hid (Blk X11 gy 51 (w8 TL)) := Lib.hid (YX10.out.below hB YX10.out.lt)
  have SX11 : Hid (Blk X11 hs 51 (w8 S)) := Lib.hid (SX10.out.below hB SX10.out.lt)
  have MX11 : Hid (Blk X11 gm 68 [.slice A l.length c, .int .i64 ((rAt l.length 32 : Nat) : Int), .int .i64 ((rBad l.length 32 : Nat) : Int)]) := Lib.hid (MX10.out.below hB MX10.out.lt)
  have PX11 : Hid (Oct.Src X11 (some ⟨gp, 0, none⟩) cp (ints ([7] ++ layN S))) := Lib.hid (PX10.out.below hB)
  have KX11 : Hid (Oct.InAt X11 gk []) := Lib.hid (KX10.out.below hB)
  clear BX10 XX10 YX10 SX10 MX10 PX10 KX10 hB
  refine ⟨_, rfl, hK.out _ _ (⟨XX11.out, YX11.out, SX11.out, MX11.out, PX11.out⟩) (fun hHeld => ?_)⟩
  clear hK K
  show wpAnyH _ _ _ _ _ _ _ (Act.put _ (some 75) _) _
  simp only [Act.put, List.setIfInBounds_toArray, List.set_cons_zero, List.set_cons_succ]
  refine wpAnyH_take (i := 42) (v := .bool true) rfl (by kernel_rfl) (by kernel_rfl) (by kernel_rfl) (fun _ _ _ h => h) (Or.inl ⟨by rfl, by intro w' h; go_simp⟩) hHeld ?_
  show wpAnyH _ _ _ _ _ _ _ (Act.put _ (some 76) _) _
  simp only [Act.put, List.setIfInBounds_toArray, List.set_cons_zero, List.set_cons_succ]
  refine wpAnyH_take (i := 43) (v := .bool true) rfl (by kernel_rfl) (by kernel_rfl) (by kernel_rfl) (fun _ _ _ h => h) (Or.inl ⟨by rfl, by intro w hSw; first | rfl | go_simp⟩) hHeld ?_
  show wpAnyH _ _ _ _ _ _ _ (Act.put _ (some 77) _) _
  simp only [Act.put, List.setIfInBounds_toArray, List.set_cons_zero, List.set_cons_succ]
  refine wpAnyH_take (i := 44) (v := .bool true) rfl (by kernel_rfl) (by kernel_rfl) (by kernel_rfl) (fun _ _ _ h => h) (Or.inl ⟨by rfl, fun w _ => by rfl⟩) hHeld ?_
  show wpAnyH _ _ _ _ _ _ _ (Act.put _ (some 4) _) _
  simp only [Act.put, List.setIfInBounds_toArray, List.set_cons_zero, List.set_cons_succ]
  refine wpAnyH_done (by kernel_rfl) ?_ _
  clear hHeld
  go_wp2
  go_ret
  exact ⟨rfl, BX11.out⟩

set_option maxRecDepth 100000 in
set_option maxHeartbeats 2000000 in
theorem bytes_dark (S : List Nat) (A : Option Addr) (n c : Nat) (w : World) (HTA : Hid (Tab w)) (hn : 5000 < n) (hm : n ≤ maxLen) :
    Calls Tryd.prog 6 #[.agg (w8 S).toArray, .slice A n c] w fun e w' => e = .returned (.bool true) ∧ Below w.heap.size w w' := by
  have d1 : (5000 : Int) < (n : Int) := by omega
  have HB : Hid (∀ o, Below w.heap.size w (w.alloc o)) := Lib.hid fun o => (Below.refl _ _).alloc (Nat.le_refl _) o
  go_enter Tryd.func6, Tryd.ntmps6
  go_wp2_with fail
  refine (awake4_any _ (Lib.hid (HTA.out.below (HB.out _) HTA.out.lt))).mono ?_
  rintro e w1 ⟨rfl, hB⟩
  have B1 := Lib.hid ((HB.out _).trans (hB.mono (HB.out _).size))
  clear hB
  go_wp2
  go_ret
  exact ⟨rfl, B1.out⟩
/-- Bytes that came in. -/
structure CameZ (W : World) (A : Option Addr) (n c : Nat) (l : List Nat) : Prop where
  src : Src W W.heap.size A c l
  len : l.length = n
  nil : A = none → c = 0
  cap : c ≤ maxLen
theorem lampBytes_walk (S : List Nat) (A : Option Addr) (n c : Nat) (l : List Nat) (w : World) (HTA : Hid (Tab w)) (HL : Hid (S.length = 1024)) (HP : Hid (∀ x ∈ S, x < 256)) (HB : Hid (CameZ w A n c l)) :
    Calls Tryd.prog 6 #[.agg (w8 S).toArray, .slice A n c] w fun e w' => e = .returned (.bool true) ∧ Below w.heap.size w w' := by
  have hc : c ≤ 9223372036854775807 := by have := HB.out.cap; unfold maxLen at this; exact this
  by_cases h : n ≤ 5000
  · exact bytes_light S A n c w.heap.size l w HTA HL HP (Lib.hid HB.out.src) rfl HB.out.nil HB.out.len h hc HB.out.src.lt
  · exact bytes_dark S A n c w HTA (by omega) (by have := HB.out.src.le; have := HB.out.len; have := HB.out.cap; omega)
end Go.Proofs.YtkonokjhpddbfaaDoor
