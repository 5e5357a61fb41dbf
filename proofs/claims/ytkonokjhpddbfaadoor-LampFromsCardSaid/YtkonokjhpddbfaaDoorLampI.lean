/-
  The document's Cover (function 68) and Secret (69): what they answer; nothing that was there is written.
-/
import Derived.Test.YtkonokjhpddbfaaDoorLampH
import Derived.Test.YtkonokjhpddbfaaDoorRefFor
import Derived.Test.YtkonokjhpddbfaaDoorOctRefNum
namespace Go.Proofs.YtkonokjhpddbfaaDoor
open Go.RowKit
set_option linter.unusedVariables false

theorem slice16r (g o : Nat) (W : World) : (Instr.sliceAt 48 (.pointer (some ⟨g, o, none⟩)) none none none).run Tryd.prog W = .ok (.slice (some ⟨g, o, none⟩) 16 16) W := by
  have h := run_sliceAt_array_all (P := Tryd.prog) W 48 ⟨g, o, none⟩ (by kernel_rfl)
  rw [h, show Tryd.prog.arrayLen 48 = 16 by kernel_rfl, show Tryd.prog.elem 48 = 5 by kernel_rfl]
  obtain ⟨i0, hi, hz0, hz1, hz2⟩ := info_parts byte_info
  simp [sizeOf, typeInfo, hi, slicedAt, Addr.add_mid]
theorem info40 : (Tryd.prog.info? 40).map (·.size) = some 2 := by kernel_rfl
/-- A slice literal, at a step of a region that draws its order. -/
theorem step_lay {ops : Array Oper} {o : Oper} {a : Act} {w : World} {K : Act → World → Prop} {Q : Exit → Act → World → Prop} {E : Prop} (hw : Region.wanted o (yielded ops a.tmps) = true) (t len : Nat) (parts : Array (Nat × Operand)) (ho : o.op = .buildSlice t len parts)
    (vals : Array (Nat × Value)) (hv : (parts.map fun (i, x) => (i, a.eval x)) = vals) (cells : Array Value) (e : TypeId) (hb : (Instr.buildSlice t len vals).run Tryd.prog w = .ok (.slice (some ⟨w.heap.size, 0, none⟩) len len) (w.alloc (.cells cells e)))
    (h : K (a.put o.dst (.slice (some ⟨w.heap.size, 0, none⟩) len len)) (w.alloc (.cells cells e))) :
    if Region.wanted o (yielded ops a.tmps) = true then Oper.wp Tryd.prog o a w K Q else E := by
  rw [if_pos hw]
  have e : (execOp a.eval o).run Tryd.prog w = .ok (.value (.slice (some ⟨w.heap.size, 0, none⟩) len len)) (w.alloc (.cells cells e)) := by
    unfold execOp
    simp only [ho, hv, Sem.run_bind, hb, Result.andThen_ok, Sem.run_pure]
  unfold Oper.wp
  rw [e]
  exact h

set_option maxRecDepth 100000 in
set_option maxHeartbeats 1000000 in
theorem cover_any (f r : ByteArray) (p : List Nat) (w : World) (HX : Hid (Texts f r)) (HL : Hid (p.length = 16)) (HPB : Hid (∀ x ∈ p, x < 256)) :
    Calls Tryd.prog 68 #[.agg #[.string f, .string r], .agg (w8 p).toArray] w fun e w' => e = .returned (.agg (w8 (covN p)).toArray) ∧ Below w.heap.size w w' := by
  have hsl := slice16r (w.heap.size + 1) 0
  go_enter Tryd.func68, Tryd.ntmps68
  go_upto_region 1 with fail
  have HT : Hid (Blk (((w.alloc (.cells #[.string f, .string r] 40)).alloc (.cells (w8 p).toArray 48)).alloc (.cells z16 48)) w.heap.size 40 ([.string f, .string r])) := Lib.hid (by
    have h := ((Blk.new w 40 ([.string f, .string r])).alloc (.cells (w8 p).toArray 48)).alloc (.cells z16 48)
    exact h)
  have HP : Hid (Blk (((w.alloc (.cells #[.string f, .string r] 40)).alloc (.cells (w8 p).toArray 48)).alloc (.cells z16 48)) (w.heap.size + 1) 48 (w8 p)) := Lib.hid (by
    have h := (Blk.new (w.alloc (.cells #[.string f, .string r] 40)) 48 (w8 p)).alloc (.cells z16 48)
    rw [World.size_alloc] at h
    exact h)
  have HR : Hid (Blk (((w.alloc (.cells #[.string f, .string r] 40)).alloc (.cells (w8 p).toArray 48)).alloc (.cells z16 48)) (w.heap.size + 1 + 1) 48 (w8 (List.replicate 16 0))) := Lib.hid (by
    have h := Blk.new ((w.alloc (.cells #[.string f, .string r] 40)).alloc (.cells (w8 p).toArray 48)) 48 (w8 (List.replicate 16 0))
    rw [z16_eq, World.size_alloc, World.size_alloc] at h
    exact h)
  have HW : Hid (Below w.heap.size w (((w.alloc (.cells #[.string f, .string r] 40)).alloc (.cells (w8 p).toArray 48)).alloc (.cells z16 48))) := Lib.hid ((((Below.refl _ _).alloc (Nat.le_refl _) _).alloc (by simp) _).alloc (by simp; omega) _)
  unfold z16 at HT HP HR HW
  generalize (((w.alloc (.cells #[.string f, .string r] 40)).alloc (.cells (w8 p).toArray 48)).alloc (.cells _ 48)) = V at HT HP HR HW ⊢
  have HLX : Hid ((covN p).length = 16) := Lib.hid (covN_length p)
  have HS6 : Hid ((Tryd.prog.info? 48).map (·.size) = some (w8 (covN p)).toArray.size) := Lib.hid (by rw [List.size_toArray, w8_length, HLX.out]; exact info48)
  have HS7 : Hid ((Tryd.prog.info? 48).map (·.size) = some (w8 (covN p)).length) := Lib.hid (by rw [w8_length, HLX.out]; exact info48)
  have HRF : Hid (∀ (X : World) (g : Nat), Blk X (w.heap.size + 1) 48 (w8 p) → Blk X g 30 [.slice (some ⟨w.heap.size + 1, 0, none⟩) 16 16] → Calls Tryd.prog 70 #[.agg #[.string f, .string r], .int .u8 5, .slice (some ⟨g, 0, none⟩) 1 1] X fun e w' => e = .returned (.agg (w8 (sha (text 5 [p]))).toArray) ∧ Below X.heap.size X w') := Lib.hid fun X g h1 h2 => by
    have hp := Parts.one (b := X.heap.size) (x := p) h2 HL.out.symm (by have := h2.lt; omega) (by omega) (Src.blk (rest := []) (by rw [List.append_nil]; exact h1) (by have := h1.lt; omega) HPB.out 16 (by rw [HL.out]; omega))
    exact reffor_any f r 5 1 1 _ _ [p] X HX (by omega) (Lib.hid hp) (Lib.hid rfl) (by omega) (Lib.hid (by simp [HL.out])) (Lib.hid (by simpa using HPB.out))
  have HFI : Hid (∀ X : World, Calls Tryd.prog 95 #[.agg (w8 (sha (text 5 [p]))).toArray] X fun e w' => e = .returned (.agg (w8 (covN p)).toArray) ∧ Below X.heap.size X w') := Lib.hid fun X => first_any _ X (Lib.hid (sha_length _))
  have HTX0 : Hid (Blk V.drew w.heap.size 40 [.string f, .string r]) := Lib.hid (HT.out.below (below_drewN (Below.refl _ _) 1) HT.out.lt)
  have HPX0 : Hid (Blk V.drew (w.heap.size + 1) 48 (w8 p)) := Lib.hid (HP.out.below (below_drewN (Below.refl _ _) 1) HP.out.lt)
  have HRX0 : Hid (Blk V.drew (w.heap.size + 1 + 1) 48 (w8 (List.replicate 16 0))) := Lib.hid (HR.out.below (below_drewN (Below.refl _ _) 1) HR.out.lt)
  have HWX0 : Hid (Below w.heap.size w V.drew) := Lib.hid (below_drewN HW.out 1)
  refine wp_region_held_drew (S := fun w' => Blk w' w.heap.size 40 [.string f, .string r] ∧ Blk w' (w.heap.size + 1) 48 (w8 p)) (by kernel_rfl) (⟨HTX0.out, HPX0.out⟩) (fun hHeld => ?_)
  generalize V.drew = X0 at hHeld HTX0 HPX0 HRX0 HWX0 ⊢
  refine wpAnyH_take (i := 0) (v := .agg #[.string f, .string r]) rfl (by kernel_rfl) (by kernel_rfl) (by kernel_rfl) (fun _ _ _ h => h) (yieldsIf_load_mid (by rfl) 40 (.tmp 2) rfl w.heap.size 0 rfl [.string f, .string r] _ (fun w' h => Blk.all h.1) Tryd.underlying40 rfl info40) hHeld ?_
  show wpAnyH _ _ _ _ _ _ _ (Act.put _ (some 5) _) _
  simp only [Act.put, List.setIfInBounds_toArray, List.set_cons_zero, List.set_cons_succ]
  refine wpAnyH_take (i := 1) (v := .slice (some ⟨w.heap.size + 1, 0, none⟩) 16 16) rfl (by kernel_rfl) (by kernel_rfl) (by kernel_rfl) (fun _ _ _ h => h) (Or.inl ⟨by rfl, by intro w' _; go_simp⟩) hHeld ?_
  show wpAnyH _ _ _ _ _ _ _ (Act.put _ (some 6) _) _
  simp only [Act.put, List.setIfInBounds_toArray, List.set_cons_zero, List.set_cons_succ]
  refine wpAnyH_ready (rs := [2]) (by kernel_rfl) (by simp) ?_
  refine AllReadyH.cons rfl (fun K hK => ?_) AllReadyH.nil
  refine step_lay rfl 23 1 #[(0, .tmp 6)] rfl #[(0, .slice (some ⟨w.heap.size + 1, 0, none⟩) 16 16)] (by simp [Act.eval]) #[.slice (some ⟨w.heap.size + 1, 0, none⟩) 16 16] 30 (by kernel_rfl) ?_
  have hB : Below X0.heap.size X0 (X0.alloc (.cells #[.slice (some ⟨w.heap.size + 1, 0, none⟩) 16 16] 30)) := (Below.refl _ _).alloc (Nat.le_refl _) _
  have HWX1 := Lib.hid (HWX0.out.trans (hB.mono HWX0.out.size))
  have HTX1 := Lib.hid (HTX0.out.below hB HTX0.out.lt)
  have HPX1 := Lib.hid (HPX0.out.below hB HPX0.out.lt)
  have HRX1 := Lib.hid (HRX0.out.below hB HRX0.out.lt)
  have HLX1 : Hid (Blk (X0.alloc (.cells #[.slice (some ⟨w.heap.size + 1, 0, none⟩) 16 16] 30)) X0.heap.size 30 [.slice (some ⟨w.heap.size + 1, 0, none⟩) 16 16]) := Lib.hid (Blk.new _ _ _)
  clear hB
  refine hK.out _ _ (⟨HTX1.out, HPX1.out⟩) (fun hHeld => ?_)
  generalize (X0.alloc (.cells #[.slice (some ⟨w.heap.size + 1, 0, none⟩) 16 16] 30)) = X1 at hHeld HWX1 HTX1 HPX1 HRX1 HLX1  ⊢
  clear hK K
  show wpAnyH _ _ _ _ _ _ _ (Act.put _ (some 7) _) _
  simp only [Act.put, List.setIfInBounds_toArray, List.set_cons_zero, List.set_cons_succ]
  refine wpAnyH_ready (rs := [3]) (by kernel_rfl) (by simp) ?_
  refine AllReadyH.cons rfl (fun K hK => ?_) AllReadyH.nil
  refine step_call rfl 70 #[.tmp 5, .const (.int .u8 5), .tmp 7] #[40, 5, 23] rfl #[.agg #[.string f, .string r], .int .u8 5, .slice (some ⟨X0.heap.size, 0, none⟩) 1 1] (by simp [Act.eval]) (by go_simp) (HRF.out X1 _ HPX1.out HLX1.out) ?_
  rintro e X2 ⟨rfl, hB⟩
  have HWX2 := Lib.hid (HWX1.out.trans (hB.mono HWX1.out.size))
  have HTX2 := Lib.hid (HTX1.out.below hB HTX1.out.lt)
  have HPX2 := Lib.hid (HPX1.out.below hB HPX1.out.lt)
  have HRX2 := Lib.hid (HRX1.out.below hB HRX1.out.lt)
  have HLX2 := Lib.hid (HLX1.out.below hB HLX1.out.lt)
  clear hB HWX1 HTX1 HPX1 HRX1 HLX1 
  refine ⟨_, rfl, hK.out _ _ (⟨HTX2.out, HPX2.out⟩) (fun hHeld => ?_)⟩
  clear hK K
  show wpAnyH _ _ _ _ _ _ _ (Act.put _ (some 8) _) _
  simp only [Act.put, List.setIfInBounds_toArray, List.set_cons_zero, List.set_cons_succ]
  refine wpAnyH_ready (rs := [4]) (by kernel_rfl) (by simp) ?_
  refine AllReadyH.cons rfl (fun K hK => ?_) AllReadyH.nil
  refine step_call rfl 95 #[.tmp 8] #[29] rfl #[.agg (w8 (sha (text 5 [p]))).toArray] (by simp [Act.eval]) (by go_simp) (HFI.out X2) ?_
  rintro e X3 ⟨rfl, hB⟩
  have HWX3 := Lib.hid (HWX2.out.trans (hB.mono HWX2.out.size))
  have HTX3 := Lib.hid (HTX2.out.below hB HTX2.out.lt)
  have HPX3 := Lib.hid (HPX2.out.below hB HPX2.out.lt)
  have HRX3 := Lib.hid (HRX2.out.below hB HRX2.out.lt)
  have HLX3 := Lib.hid (HLX2.out.below hB HLX2.out.lt)
  have HTH : Hid (X3.there (w.heap.size + 1 + 1) 0 (w8 (covN p)).length) := Lib.hid (HRX3.out.there _ _ (by rw [w8_length, w8_length, HLX.out]; simp))
  clear hB HWX2 HTX2 HPX2 HRX2 HLX2 
  refine ⟨_, rfl, hK.out _ _ (⟨HTX3.out, HPX3.out⟩) (fun hHeld => ?_)⟩
  clear hK K
  show wpAnyH _ _ _ _ _ _ _ (Act.put _ (some 9) _) _
  simp only [Act.put, List.setIfInBounds_toArray, List.set_cons_zero, List.set_cons_succ]
  refine wpAnyH_ready (rs := [5]) (by kernel_rfl) (by simp) ?_
  refine AllReadyH.cons rfl (fun K hK => ?_) AllReadyH.nil
  refine step_store_mid rfl 48 (.tmp 4) (.tmp 9) rfl (w.heap.size + 1 + 1) 0 (w8 (covN p)) rfl rfl HTH.out HS7.out (w8_one _) ?_
  refine hK.out _ _ (⟨HTX3.out.farCells (by omega) _, HPX3.out.farCells (by omega) _⟩) (fun hHeld => ?_)
  have HTX4 := Lib.hid (HTX3.out.farCells (b := (w.heap.size + 1 + 1)) (o := 0) (by omega) (w8 (covN p)))
  have HRX4 : Hid (Blk (X3.setCells (w.heap.size + 1 + 1) 0 (w8 (covN p))) (w.heap.size + 1 + 1) 48 (w8 (covN p))) := Lib.hid (by
    have h := Blk.put8 [] (List.replicate 16 0) [] (covN p) (by rw [List.nil_append, List.append_nil]; exact HRX3.out) (by rw [HLX.out]; simp) 0 rfl
    rw [List.nil_append, List.append_nil] at h
    exact h)
  have HWX4 := Lib.hid (below_cells (g := (w.heap.size + 1 + 1)) (w8 (covN p)) 0 X3 HWX3.out (by omega))
  generalize X3.setCells (w.heap.size + 1 + 1) 0 (w8 (covN p)) = X4 at hHeld HTX4 HRX4 HWX4 ⊢
  clear hK K
  show wpAnyH _ _ _ _ _ _ _ (Act.put _ none _) _
  simp only [Act.put]
  refine wpAnyH_done (by kernel_rfl) ?_ _
  go_wp2
  exact bodyPost_ret (v := .agg (w8 (covN p)).toArray) (results_cell_row Tryd.results68 _ _ (w.heap.size + 1 + 1) 48 (w8 (covN p)).toArray (0, 0) _ rfl HRX4.out Tryd.underlying48 rfl HS6.out) rfl ⟨rfl, HWX4.out⟩

theorem numV_four (n : Nat) (hn : n < 4294967296) : Oct.numV 4 (n : Int) = ints (four n) := by
  simp only [Oct.numV, ints, four, List.nil_append, List.cons_append, List.map_cons, List.map_nil, List.cons.injEq, and_true]
  omega
theorem num_src (n : Nat) (hn : n < 4294967296) (base : Nat) (w : World) (hb : base < w.heap.size) : Calls Tryd.prog 89 #[.slice none 0 0, .int .u64 (n : Int), .int .i64 4] w fun e w' => ∃ A c, e = .returned (.slice A 4 c) ∧ c ≤ 9223372036854775807 ∧ Src w' base A c (four n) ∧ Below w.heap.size w w' := by
  have h := Oct.num_any none 0 0 [] (n : Int) 4 (by omega) w ⟨fun _ => rfl, .inl rfl⟩ rfl (by omega) (by omega) (by omega)
  refine h.mono ?_
  rintro e w' ⟨v', rfl, hO, hB⟩
  rw [List.nil_append, numV_four n hn] at hO
  have hO2 := Own.ofOct hO
  obtain ⟨A, c, rfl, hc, hs⟩ := hO2.src (b := base) (by
    intro he
    have := (World.ownsRow.lt hO2 base he).1
    omega) (four_lt n hn)
  exact ⟨A, c, rfl, hc, hs, hB⟩
set_option maxRecDepth 100000 in
set_option maxHeartbeats 1000000 in
theorem rsecret_any (f r : ByteArray) (seed : List Nat) (n a v : Nat) (w : World) (HX : Hid (Texts f r)) (HL : Hid (seed.length = 32)) (HPB : Hid (∀ x ∈ seed, x < 256)) (hn : n < 4294967296) (ha : a < 32) (hv : v < 2) :
    Calls Tryd.prog 69 #[.agg #[.string f, .string r], .agg (w8 seed).toArray, .int .u32 (n : Int), .int .i64 (a : Int), .int .i64 (v : Int)] w fun e w' => e = .returned (.agg (w8 (secN seed n a v)).toArray) ∧ Below w.heap.size w w' := by
  have hsl := slice32p (w.heap.size + 1) 0
  have n1 : (n : Int) ≤ 4294967295 := by omega
  have a1 : (a : Int) ≤ 255 := by omega
  have v1 : (v : Int) ≤ 255 := by omega
  have u1 : IntKind.u64.wrap (n : Int) = (n : Int) := IntWalk.u64_in _ (by omega)
  have u2 : IntKind.u8.wrap (a : Int) = (a : Int) := IntWalk.u8_in _ (by omega)
  have u3 : IntKind.u8.wrap (v : Int) = (v : Int) := IntWalk.u8_in _ (by omega)
  go_enter Tryd.func69, Tryd.ntmps69
  go_upto_region 1 with fail
  have HT : Hid (Blk (((w.alloc (.cells #[.string f, .string r] 40)).alloc (.cells (w8 seed).toArray 29)).alloc (.cells z16 48)) w.heap.size 40 ([.string f, .string r])) := Lib.hid (by
    have h := ((Blk.new w 40 ([.string f, .string r])).alloc (.cells (w8 seed).toArray 29)).alloc (.cells z16 48)
    exact h)
  have HP : Hid (Blk (((w.alloc (.cells #[.string f, .string r] 40)).alloc (.cells (w8 seed).toArray 29)).alloc (.cells z16 48)) (w.heap.size + 1) 29 (w8 seed)) := Lib.hid (by
    have h := (Blk.new (w.alloc (.cells #[.string f, .string r] 40)) 29 (w8 seed)).alloc (.cells z16 48)
    rw [World.size_alloc] at h
    exact h)
  have HR : Hid (Blk (((w.alloc (.cells #[.string f, .string r] 40)).alloc (.cells (w8 seed).toArray 29)).alloc (.cells z16 48)) (w.heap.size + 1 + 1) 48 (w8 (List.replicate 16 0))) := Lib.hid (by
    have h := Blk.new ((w.alloc (.cells #[.string f, .string r] 40)).alloc (.cells (w8 seed).toArray 29)) 48 (w8 (List.replicate 16 0))
    rw [z16_eq, World.size_alloc, World.size_alloc] at h
    exact h)
  have HW : Hid (Below w.heap.size w (((w.alloc (.cells #[.string f, .string r] 40)).alloc (.cells (w8 seed).toArray 29)).alloc (.cells z16 48))) := Lib.hid ((((Below.refl _ _).alloc (Nat.le_refl _) _).alloc (by simp) _).alloc (by simp; omega) _)
  unfold z16 at HT HP HR HW
  generalize (((w.alloc (.cells #[.string f, .string r] 40)).alloc (.cells (w8 seed).toArray 29)).alloc (.cells _ 48)) = V at HT HP HR HW ⊢
  have HLX : Hid ((secN seed n a v).length = 16) := Lib.hid (secN_length _ _ _ _)
  have HS6 : Hid ((Tryd.prog.info? 48).map (·.size) = some (w8 (secN seed n a v)).toArray.size) := Lib.hid (by rw [List.size_toArray, w8_length, HLX.out]; exact info48)
  have HS7 : Hid ((Tryd.prog.info? 48).map (·.size) = some (w8 (secN seed n a v)).length) := Lib.hid (by rw [w8_length, HLX.out]; exact info48)
  have HNU : Hid (∀ X : World, Blk X (w.heap.size + 1) 29 (w8 seed) → Calls Tryd.prog 89 #[.slice none 0 0, .int .u64 (n : Int), .int .i64 4] X fun e w' => ∃ A c, e = .returned (.slice A 4 c) ∧ c ≤ 9223372036854775807 ∧ Src w' w.heap.size A c (four n) ∧ Below X.heap.size X w') := Lib.hid fun X hX => num_src n hn w.heap.size X (by have := hX.lt; omega)
  have HRF : Hid (∀ (X : World) (A4 : Option Addr) (c4 g2 g : Nat), c4 ≤ 9223372036854775807 → Blk X (w.heap.size + 1) 29 (w8 seed) → Src X w.heap.size A4 c4 (four n) → Blk X g2 5 [.int .u8 (a : Int), .int .u8 (v : Int)] → Blk X g 30 [.slice (some ⟨w.heap.size + 1, 0, none⟩) 32 32, .slice A4 4 c4, .slice (some ⟨g2, 0, none⟩) 2 2] → Calls Tryd.prog 70 #[.agg #[.string f, .string r], .int .u8 1, .slice (some ⟨g, 0, none⟩) 3 3] X fun e w' => e = .returned (.agg (w8 (sha (text 1 [seed, four n, [a, v]]))).toArray) ∧ Below X.heap.size X w') := Lib.hid fun X A4 c4 g2 g hc h1 h2 h3 h4 => by
    have l2 := h3.lt
    have l1 := h1.lt
    have l4 := h4.lt
    have hp := Parts.three (b := X.heap.size) (x1 := seed) (x2 := four n) (x3 := [a, v]) h4 HL.out.symm rfl rfl (by omega) (by omega) hc (by omega) (Src.blk (rest := []) (by rw [List.append_nil]; exact h1) (by omega) HPB.out 32 (by rw [HL.out]; omega)) (h2.new (Nat.le_refl _)) (Src.blk (rest := []) (l := [a, v]) (by rw [List.append_nil]; exact h3) (by omega) (by intro x hx; simp at hx; omega) 2 (by simp))
    exact reffor_any f r 1 3 3 _ _ [seed, four n, [a, v]] X HX (by omega) (Lib.hid hp) (Lib.hid rfl) (by omega) (Lib.hid (by simp [HL.out, four])) (Lib.hid (by
      intro p hp x hx
      simp at hp
      rcases hp with rfl | rfl | rfl
      · exact HPB.out x hx
      · exact four_lt n hn x hx
      · simp at hx; omega))
  have HFI : Hid (∀ X : World, Calls Tryd.prog 95 #[.agg (w8 (sha (text 1 [seed, four n, [a, v]]))).toArray] X fun e w' => e = .returned (.agg (w8 (secN seed n a v)).toArray) ∧ Below X.heap.size X w') := Lib.hid fun X => first_any _ X (Lib.hid (sha_length _))
  have HTX0 : Hid (Blk V.drew w.heap.size 40 [.string f, .string r]) := Lib.hid (HT.out.below (below_drewN (Below.refl _ _) 1) HT.out.lt)
  have HPX0 : Hid (Blk V.drew (w.heap.size + 1) 29 (w8 seed)) := Lib.hid (HP.out.below (below_drewN (Below.refl _ _) 1) HP.out.lt)
  have HRX0 : Hid (Blk V.drew (w.heap.size + 1 + 1) 48 (w8 (List.replicate 16 0))) := Lib.hid (HR.out.below (below_drewN (Below.refl _ _) 1) HR.out.lt)
  have HWX0 : Hid (Below w.heap.size w V.drew) := Lib.hid (below_drewN HW.out 1)
  refine wp_region_held_drew (S := fun w' => Blk w' w.heap.size 40 [.string f, .string r] ∧ Blk w' (w.heap.size + 1) 29 (w8 seed)) (by kernel_rfl) (⟨HTX0.out, HPX0.out⟩) (fun hHeld => ?_)
  generalize V.drew = X0 at hHeld HTX0 HPX0 HRX0 HWX0 ⊢
  refine wpAnyH_take (i := 0) (v := .agg #[.string f, .string r]) rfl (by kernel_rfl) (by kernel_rfl) (by kernel_rfl) (fun _ _ _ h => h) (yieldsIf_load_mid (by rfl) 40 (.tmp 5) rfl w.heap.size 0 rfl [.string f, .string r] _ (fun w' h => Blk.all h.1) Tryd.underlying40 rfl info40) hHeld ?_
  show wpAnyH _ _ _ _ _ _ _ (Act.put _ (some 11) _) _
  simp only [Act.put, List.setIfInBounds_toArray, List.set_cons_zero, List.set_cons_succ]
  refine wpAnyH_take (i := 1) (v := .slice (some ⟨w.heap.size + 1, 0, none⟩) 32 32) rfl (by kernel_rfl) (by kernel_rfl) (by kernel_rfl) (fun _ _ _ h => h) (Or.inl ⟨by rfl, by intro w' _; go_simp⟩) hHeld ?_
  show wpAnyH _ _ _ _ _ _ _ (Act.put _ (some 12) _) _
  simp only [Act.put, List.setIfInBounds_toArray, List.set_cons_zero, List.set_cons_succ]
  refine wpAnyH_take (i := 2) (v := .int .u32 (n : Int)) rfl (by kernel_rfl) (by kernel_rfl) (by kernel_rfl) (fun _ _ _ h => h) (Or.inl ⟨by rfl, fun w _ => by rfl⟩) hHeld ?_
  show wpAnyH _ _ _ _ _ _ _ (Act.put _ (some 13) _) _
  simp only [Act.put, List.setIfInBounds_toArray, List.set_cons_zero, List.set_cons_succ]
  refine wpAnyH_take (i := 3) (v := .int .u64 (n : Int)) rfl (by kernel_rfl) (by kernel_rfl) (by kernel_rfl) (fun _ _ _ h => h) (Or.inl ⟨by rfl, by intro w' _; go_simp⟩) hHeld ?_
  show wpAnyH _ _ _ _ _ _ _ (Act.put _ (some 14) _) _
  simp only [Act.put, List.setIfInBounds_toArray, List.set_cons_zero, List.set_cons_succ]
  refine wpAnyH_take (i := 5) (v := .int .i64 (a : Int)) rfl (by kernel_rfl) (by kernel_rfl) (by kernel_rfl) (fun _ _ _ h => h) (Or.inl ⟨by rfl, fun w _ => by rfl⟩) hHeld ?_
  show wpAnyH _ _ _ _ _ _ _ (Act.put _ (some 16) _) _
  simp only [Act.put, List.setIfInBounds_toArray, List.set_cons_zero, List.set_cons_succ]
  refine wpAnyH_take (i := 6) (v := .int .u8 (a : Int)) rfl (by kernel_rfl) (by kernel_rfl) (by kernel_rfl) (fun _ _ _ h => h) (Or.inl ⟨by rfl, by intro w' _; go_simp⟩) hHeld ?_
  show wpAnyH _ _ _ _ _ _ _ (Act.put _ (some 17) _) _
  simp only [Act.put, List.setIfInBounds_toArray, List.set_cons_zero, List.set_cons_succ]
  refine wpAnyH_take (i := 7) (v := .int .i64 (v : Int)) rfl (by kernel_rfl) (by kernel_rfl) (by kernel_rfl) (fun _ _ _ h => h) (Or.inl ⟨by rfl, fun w _ => by rfl⟩) hHeld ?_
  show wpAnyH _ _ _ _ _ _ _ (Act.put _ (some 18) _) _
  simp only [Act.put, List.setIfInBounds_toArray, List.set_cons_zero, List.set_cons_succ]
  refine wpAnyH_take (i := 8) (v := .int .u8 (v : Int)) rfl (by kernel_rfl) (by kernel_rfl) (by kernel_rfl) (fun _ _ _ h => h) (Or.inl ⟨by rfl, by intro w' _; go_simp⟩) hHeld ?_
  show wpAnyH _ _ _ _ _ _ _ (Act.put _ (some 19) _) _
  simp only [Act.put, List.setIfInBounds_toArray, List.set_cons_zero, List.set_cons_succ]
  refine wpAnyH_ready (rs := [4, 9]) (by kernel_rfl) (by simp) ?_
  refine AllReadyH.cons rfl (fun K hK => ?_) (AllReadyH.cons rfl (fun K hK => ?_) AllReadyH.nil)
  · refine step_call rfl 89 #[.const (.slice none 0 0), .tmp 14, .const (.int .i64 4)] #[30, 91, 3] rfl #[.slice none 0 0, .int .u64 (n : Int), .int .i64 4] (by simp [Act.eval]) (by go_simp) (HNU.out X0 HPX0.out) ?_
    rintro e X1 ⟨A4, c4, rfl, hc4, hs4, hB⟩
    have HWX1 := Lib.hid (HWX0.out.trans (hB.mono HWX0.out.size))
    have HTX1 := Lib.hid (HTX0.out.below hB HTX0.out.lt)
    have HPX1 := Lib.hid (HPX0.out.below hB HPX0.out.lt)
    have HRX1 := Lib.hid (HRX0.out.below hB HRX0.out.lt)
    have HNX1 : Hid (Src X1 w.heap.size A4 c4 (four n)) := Lib.hid (hs4)
    clear hB HWX0 HTX0 HPX0 HRX0 
    refine ⟨_, rfl, hK.out _ _ (⟨HTX1.out, HPX1.out⟩) (fun hHeld => ?_)⟩
    clear hK K
    show wpAnyH _ _ _ _ _ _ _ (Act.put _ (some 15) _) _
    simp only [Act.put, List.setIfInBounds_toArray, List.set_cons_zero, List.set_cons_succ]
    refine wpAnyH_ready (rs := [9]) (by kernel_rfl) (by simp) ?_
    refine AllReadyH.cons rfl (fun K hK => ?_) AllReadyH.nil
    refine step_lay rfl 30 2 #[(0, .tmp 17), (1, .tmp 19)] rfl #[(0, .int .u8 (a : Int)), (1, .int .u8 (v : Int))] (by simp [Act.eval]) #[.int .u8 (a : Int), .int .u8 (v : Int)] 5 (by kernel_rfl) ?_
    have hB : Below X1.heap.size X1 (X1.alloc (.cells #[.int .u8 (a : Int), .int .u8 (v : Int)] 5)) := (Below.refl _ _).alloc (Nat.le_refl _) _
    have HWX2 := Lib.hid (HWX1.out.trans (hB.mono HWX1.out.size))
    have HTX2 := Lib.hid (HTX1.out.below hB HTX1.out.lt)
    have HPX2 := Lib.hid (HPX1.out.below hB HPX1.out.lt)
    have HRX2 := Lib.hid (HRX1.out.below hB HRX1.out.lt)
    have HNX2 := Lib.hid (HNX1.out.below hB)
    have HBX2 : Hid (Blk (X1.alloc (.cells #[.int .u8 (a : Int), .int .u8 (v : Int)] 5)) X1.heap.size 5 [.int .u8 (a : Int), .int .u8 (v : Int)]) := Lib.hid (Blk.new _ _ _)
    clear hB
    refine hK.out _ _ (⟨HTX2.out, HPX2.out⟩) (fun hHeld => ?_)
    generalize (X1.alloc (.cells #[.int .u8 (a : Int), .int .u8 (v : Int)] 5)) = X2 at hHeld HWX2 HTX2 HPX2 HRX2 HNX2 HBX2  ⊢
    clear hK K
    show wpAnyH _ _ _ _ _ _ _ (Act.put _ (some 20) _) _
    simp only [Act.put, List.setIfInBounds_toArray, List.set_cons_zero, List.set_cons_succ]
    refine wpAnyH_ready (rs := [10]) (by kernel_rfl) (by simp) ?_
    refine AllReadyH.cons rfl (fun K hK => ?_) AllReadyH.nil
    refine step_lay rfl 23 3 #[(0, .tmp 12), (1, .tmp 15), (2, .tmp 20)] rfl #[(0, .slice (some ⟨w.heap.size + 1, 0, none⟩) 32 32), (1, .slice A4 4 c4), (2, .slice (some ⟨X1.heap.size, 0, none⟩) 2 2)] (by simp [Act.eval]) #[.slice (some ⟨w.heap.size + 1, 0, none⟩) 32 32, .slice A4 4 c4, .slice (some ⟨X1.heap.size, 0, none⟩) 2 2] 30 (by kernel_rfl) ?_
    have hB : Below X2.heap.size X2 (X2.alloc (.cells #[.slice (some ⟨w.heap.size + 1, 0, none⟩) 32 32, .slice A4 4 c4, .slice (some ⟨X1.heap.size, 0, none⟩) 2 2] 30)) := (Below.refl _ _).alloc (Nat.le_refl _) _
    have HWX3 := Lib.hid (HWX2.out.trans (hB.mono HWX2.out.size))
    have HTX3 := Lib.hid (HTX2.out.below hB HTX2.out.lt)
    have HPX3 := Lib.hid (HPX2.out.below hB HPX2.out.lt)
    have HRX3 := Lib.hid (HRX2.out.below hB HRX2.out.lt)
    have HNX3 := Lib.hid (HNX2.out.below hB)
    have HBX3 := Lib.hid (HBX2.out.below hB HBX2.out.lt)
    have HLX3 : Hid (Blk (X2.alloc (.cells #[.slice (some ⟨w.heap.size + 1, 0, none⟩) 32 32, .slice A4 4 c4, .slice (some ⟨X1.heap.size, 0, none⟩) 2 2] 30)) X2.heap.size 30 [.slice (some ⟨w.heap.size + 1, 0, none⟩) 32 32, .slice A4 4 c4, .slice (some ⟨X1.heap.size, 0, none⟩) 2 2]) := Lib.hid (Blk.new _ _ _)
    clear hB
    refine hK.out _ _ (⟨HTX3.out, HPX3.out⟩) (fun hHeld => ?_)
    generalize (X2.alloc (.cells #[.slice (some ⟨w.heap.size + 1, 0, none⟩) 32 32, .slice A4 4 c4, .slice (some ⟨X1.heap.size, 0, none⟩) 2 2] 30)) = X3 at hHeld HWX3 HTX3 HPX3 HRX3 HNX3 HBX3 HLX3  ⊢
    clear hK K
    show wpAnyH _ _ _ _ _ _ _ (Act.put _ (some 21) _) _
    simp only [Act.put, List.setIfInBounds_toArray, List.set_cons_zero, List.set_cons_succ]
    refine wpAnyH_ready (rs := [11]) (by kernel_rfl) (by simp) ?_
    refine AllReadyH.cons rfl (fun K hK => ?_) AllReadyH.nil
    refine step_call rfl 70 #[.tmp 11, .const (.int .u8 1), .tmp 21] #[40, 5, 23] rfl #[.agg #[.string f, .string r], .int .u8 1, .slice (some ⟨X2.heap.size, 0, none⟩) 3 3] (by simp [Act.eval]) (by go_simp) (HRF.out X3 _ _ _ _ hc4 HPX3.out HNX3.out HBX3.out HLX3.out) ?_
    rintro e X4 ⟨rfl, hB⟩
    have HWX4 := Lib.hid (HWX3.out.trans (hB.mono HWX3.out.size))
    have HTX4 := Lib.hid (HTX3.out.below hB HTX3.out.lt)
    have HPX4 := Lib.hid (HPX3.out.below hB HPX3.out.lt)
    have HRX4 := Lib.hid (HRX3.out.below hB HRX3.out.lt)
    have HNX4 := Lib.hid (HNX3.out.below hB)
    have HBX4 := Lib.hid (HBX3.out.below hB HBX3.out.lt)
    have HLX4 := Lib.hid (HLX3.out.below hB HLX3.out.lt)
    clear hB HWX3 HTX3 HPX3 HRX3 HNX3 HBX3 HLX3 
    refine ⟨_, rfl, hK.out _ _ (⟨HTX4.out, HPX4.out⟩) (fun hHeld => ?_)⟩
    clear hK K
    show wpAnyH _ _ _ _ _ _ _ (Act.put _ (some 22) _) _
    simp only [Act.put, List.setIfInBounds_toArray, List.set_cons_zero, List.set_cons_succ]
    refine wpAnyH_ready (rs := [12]) (by kernel_rfl) (by simp) ?_
    refine AllReadyH.cons rfl (fun K hK => ?_) AllReadyH.nil
    refine step_call rfl 95 #[.tmp 22] #[29] rfl #[.agg (w8 (sha (text 1 [seed, four n, [a, v]]))).toArray] (by simp [Act.eval]) (by go_simp) (HFI.out X4) ?_
    rintro e X5 ⟨rfl, hB⟩
    have HWX5 := Lib.hid (HWX4.out.trans (hB.mono HWX4.out.size))
    have HTX5 := Lib.hid (HTX4.out.below hB HTX4.out.lt)
    have HPX5 := Lib.hid (HPX4.out.below hB HPX4.out.lt)
    have HRX5 := Lib.hid (HRX4.out.below hB HRX4.out.lt)
    have HNX5 := Lib.hid (HNX4.out.below hB)
    have HBX5 := Lib.hid (HBX4.out.below hB HBX4.out.lt)
    have HLX5 := Lib.hid (HLX4.out.below hB HLX4.out.lt)
    have HTH : Hid (X5.there (w.heap.size + 1 + 1) 0 (w8 (secN seed n a v)).length) := Lib.hid (HRX5.out.there _ _ (by rw [w8_length, w8_length, HLX.out]; simp))
    clear hB HWX4 HTX4 HPX4 HRX4 HNX4 HBX4 HLX4 
    refine ⟨_, rfl, hK.out _ _ (⟨HTX5.out, HPX5.out⟩) (fun hHeld => ?_)⟩
    clear hK K
    show wpAnyH _ _ _ _ _ _ _ (Act.put _ (some 23) _) _
    simp only [Act.put, List.setIfInBounds_toArray, List.set_cons_zero, List.set_cons_succ]
    refine wpAnyH_ready (rs := [13]) (by kernel_rfl) (by simp) ?_
    refine AllReadyH.cons rfl (fun K hK => ?_) AllReadyH.nil
    refine step_store_mid rfl 48 (.tmp 10) (.tmp 23) rfl (w.heap.size + 1 + 1) 0 (w8 (secN seed n a v)) rfl rfl HTH.out HS7.out (w8_one _) ?_
    refine hK.out _ _ (⟨HTX5.out.farCells (by omega) _, HPX5.out.farCells (by omega) _⟩) (fun hHeld => ?_)
    have HTX6 := Lib.hid (HTX5.out.farCells (b := (w.heap.size + 1 + 1)) (o := 0) (by omega) (w8 (secN seed n a v)))
    have HRX6 : Hid (Blk (X5.setCells (w.heap.size + 1 + 1) 0 (w8 (secN seed n a v))) (w.heap.size + 1 + 1) 48 (w8 (secN seed n a v))) := Lib.hid (by
      have h := Blk.put8 [] (List.replicate 16 0) [] (secN seed n a v) (by rw [List.nil_append, List.append_nil]; exact HRX5.out) (by rw [HLX.out]; simp) 0 rfl
      rw [List.nil_append, List.append_nil] at h
      exact h)
    have HWX6 := Lib.hid (below_cells (g := (w.heap.size + 1 + 1)) (w8 (secN seed n a v)) 0 X5 HWX5.out (by omega))
    generalize X5.setCells (w.heap.size + 1 + 1) 0 (w8 (secN seed n a v)) = X6 at hHeld HTX6 HRX6 HWX6 ⊢
    clear hK K
    show wpAnyH _ _ _ _ _ _ _ (Act.put _ none _) _
    simp only [Act.put]
    refine wpAnyH_done (by kernel_rfl) ?_ _
    go_wp2
    exact bodyPost_ret (v := .agg (w8 (secN seed n a v)).toArray) (results_cell_row Tryd.results69 _ _ (w.heap.size + 1 + 1) 48 (w8 (secN seed n a v)).toArray (0, 0) _ rfl HRX6.out Tryd.underlying48 rfl HS6.out) rfl ⟨rfl, HWX6.out⟩
  · refine step_lay rfl 30 2 #[(0, .tmp 17), (1, .tmp 19)] rfl #[(0, .int .u8 (a : Int)), (1, .int .u8 (v : Int))] (by simp [Act.eval]) #[.int .u8 (a : Int), .int .u8 (v : Int)] 5 (by kernel_rfl) ?_
    have hB : Below X0.heap.size X0 (X0.alloc (.cells #[.int .u8 (a : Int), .int .u8 (v : Int)] 5)) := (Below.refl _ _).alloc (Nat.le_refl _) _
    have HWX1 := Lib.hid (HWX0.out.trans (hB.mono HWX0.out.size))
    have HTX1 := Lib.hid (HTX0.out.below hB HTX0.out.lt)
    have HPX1 := Lib.hid (HPX0.out.below hB HPX0.out.lt)
    have HRX1 := Lib.hid (HRX0.out.below hB HRX0.out.lt)
    have HBX1 : Hid (Blk (X0.alloc (.cells #[.int .u8 (a : Int), .int .u8 (v : Int)] 5)) X0.heap.size 5 [.int .u8 (a : Int), .int .u8 (v : Int)]) := Lib.hid (Blk.new _ _ _)
    clear hB
    refine hK.out _ _ (⟨HTX1.out, HPX1.out⟩) (fun hHeld => ?_)
    generalize (X0.alloc (.cells #[.int .u8 (a : Int), .int .u8 (v : Int)] 5)) = X1 at hHeld HWX1 HTX1 HPX1 HRX1 HBX1  ⊢
    clear hK K
    show wpAnyH _ _ _ _ _ _ _ (Act.put _ (some 20) _) _
    simp only [Act.put, List.setIfInBounds_toArray, List.set_cons_zero, List.set_cons_succ]
    refine wpAnyH_ready (rs := [4]) (by kernel_rfl) (by simp) ?_
    refine AllReadyH.cons rfl (fun K hK => ?_) AllReadyH.nil
    refine step_call rfl 89 #[.const (.slice none 0 0), .tmp 14, .const (.int .i64 4)] #[30, 91, 3] rfl #[.slice none 0 0, .int .u64 (n : Int), .int .i64 4] (by simp [Act.eval]) (by go_simp) (HNU.out X1 HPX1.out) ?_
    rintro e X2 ⟨A4, c4, rfl, hc4, hs4, hB⟩
    have HWX2 := Lib.hid (HWX1.out.trans (hB.mono HWX1.out.size))
    have HTX2 := Lib.hid (HTX1.out.below hB HTX1.out.lt)
    have HPX2 := Lib.hid (HPX1.out.below hB HPX1.out.lt)
    have HRX2 := Lib.hid (HRX1.out.below hB HRX1.out.lt)
    have HBX2 := Lib.hid (HBX1.out.below hB HBX1.out.lt)
    have HNX2 : Hid (Src X2 w.heap.size A4 c4 (four n)) := Lib.hid (hs4)
    clear hB HWX1 HTX1 HPX1 HRX1 HBX1 
    refine ⟨_, rfl, hK.out _ _ (⟨HTX2.out, HPX2.out⟩) (fun hHeld => ?_)⟩
    clear hK K
    show wpAnyH _ _ _ _ _ _ _ (Act.put _ (some 15) _) _
    simp only [Act.put, List.setIfInBounds_toArray, List.set_cons_zero, List.set_cons_succ]
    refine wpAnyH_ready (rs := [10]) (by kernel_rfl) (by simp) ?_
    refine AllReadyH.cons rfl (fun K hK => ?_) AllReadyH.nil
    refine step_lay rfl 23 3 #[(0, .tmp 12), (1, .tmp 15), (2, .tmp 20)] rfl #[(0, .slice (some ⟨w.heap.size + 1, 0, none⟩) 32 32), (1, .slice A4 4 c4), (2, .slice (some ⟨X0.heap.size, 0, none⟩) 2 2)] (by simp [Act.eval]) #[.slice (some ⟨w.heap.size + 1, 0, none⟩) 32 32, .slice A4 4 c4, .slice (some ⟨X0.heap.size, 0, none⟩) 2 2] 30 (by kernel_rfl) ?_
    have hB : Below X2.heap.size X2 (X2.alloc (.cells #[.slice (some ⟨w.heap.size + 1, 0, none⟩) 32 32, .slice A4 4 c4, .slice (some ⟨X0.heap.size, 0, none⟩) 2 2] 30)) := (Below.refl _ _).alloc (Nat.le_refl _) _
    have HWX3 := Lib.hid (HWX2.out.trans (hB.mono HWX2.out.size))
    have HTX3 := Lib.hid (HTX2.out.below hB HTX2.out.lt)
    have HPX3 := Lib.hid (HPX2.out.below hB HPX2.out.lt)
    have HRX3 := Lib.hid (HRX2.out.below hB HRX2.out.lt)
    have HBX3 := Lib.hid (HBX2.out.below hB HBX2.out.lt)
    have HNX3 := Lib.hid (HNX2.out.below hB)
    have HLX3 : Hid (Blk (X2.alloc (.cells #[.slice (some ⟨w.heap.size + 1, 0, none⟩) 32 32, .slice A4 4 c4, .slice (some ⟨X0.heap.size, 0, none⟩) 2 2] 30)) X2.heap.size 30 [.slice (some ⟨w.heap.size + 1, 0, none⟩) 32 32, .slice A4 4 c4, .slice (some ⟨X0.heap.size, 0, none⟩) 2 2]) := Lib.hid (Blk.new _ _ _)
    clear hB
    refine hK.out _ _ (⟨HTX3.out, HPX3.out⟩) (fun hHeld => ?_)
    generalize (X2.alloc (.cells #[.slice (some ⟨w.heap.size + 1, 0, none⟩) 32 32, .slice A4 4 c4, .slice (some ⟨X0.heap.size, 0, none⟩) 2 2] 30)) = X3 at hHeld HWX3 HTX3 HPX3 HRX3 HBX3 HNX3 HLX3  ⊢
    clear hK K
    show wpAnyH _ _ _ _ _ _ _ (Act.put _ (some 21) _) _
    simp only [Act.put, List.setIfInBounds_toArray, List.set_cons_zero, List.set_cons_succ]
    refine wpAnyH_ready (rs := [11]) (by kernel_rfl) (by simp) ?_
    refine AllReadyH.cons rfl (fun K hK => ?_) AllReadyH.nil
    refine step_call rfl 70 #[.tmp 11, .const (.int .u8 1), .tmp 21] #[40, 5, 23] rfl #[.agg #[.string f, .string r], .int .u8 1, .slice (some ⟨X2.heap.size, 0, none⟩) 3 3] (by simp [Act.eval]) (by go_simp) (HRF.out X3 _ _ _ _ hc4 HPX3.out HNX3.out HBX3.out HLX3.out) ?_
    rintro e X4 ⟨rfl, hB⟩
    have HWX4 := Lib.hid (HWX3.out.trans (hB.mono HWX3.out.size))
    have HTX4 := Lib.hid (HTX3.out.below hB HTX3.out.lt)
    have HPX4 := Lib.hid (HPX3.out.below hB HPX3.out.lt)
    have HRX4 := Lib.hid (HRX3.out.below hB HRX3.out.lt)
    have HBX4 := Lib.hid (HBX3.out.below hB HBX3.out.lt)
    have HNX4 := Lib.hid (HNX3.out.below hB)
    have HLX4 := Lib.hid (HLX3.out.below hB HLX3.out.lt)
    clear hB HWX3 HTX3 HPX3 HRX3 HBX3 HNX3 HLX3 
    refine ⟨_, rfl, hK.out _ _ (⟨HTX4.out, HPX4.out⟩) (fun hHeld => ?_)⟩
    clear hK K
    show wpAnyH _ _ _ _ _ _ _ (Act.put _ (some 22) _) _
    simp only [Act.put, List.setIfInBounds_toArray, List.set_cons_zero, List.set_cons_succ]
    refine wpAnyH_ready (rs := [12]) (by kernel_rfl) (by simp) ?_
    refine AllReadyH.cons rfl (fun K hK => ?_) AllReadyH.nil
    refine step_call rfl 95 #[.tmp 22] #[29] rfl #[.agg (w8 (sha (text 1 [seed, four n, [a, v]]))).toArray] (by simp [Act.eval]) (by go_simp) (HFI.out X4) ?_
    rintro e X5 ⟨rfl, hB⟩
    have HWX5 := Lib.hid (HWX4.out.trans (hB.mono HWX4.out.size))
    have HTX5 := Lib.hid (HTX4.out.below hB HTX4.out.lt)
    have HPX5 := Lib.hid (HPX4.out.below hB HPX4.out.lt)
    have HRX5 := Lib.hid (HRX4.out.below hB HRX4.out.lt)
    have HBX5 := Lib.hid (HBX4.out.below hB HBX4.out.lt)
    have HNX5 := Lib.hid (HNX4.out.below hB)
    have HLX5 := Lib.hid (HLX4.out.below hB HLX4.out.lt)
    have HTH : Hid (X5.there (w.heap.size + 1 + 1) 0 (w8 (secN seed n a v)).length) := Lib.hid (HRX5.out.there _ _ (by rw [w8_length, w8_length, HLX.out]; simp))
    clear hB HWX4 HTX4 HPX4 HRX4 HBX4 HNX4 HLX4 
    refine ⟨_, rfl, hK.out _ _ (⟨HTX5.out, HPX5.out⟩) (fun hHeld => ?_)⟩
    clear hK K
    show wpAnyH _ _ _ _ _ _ _ (Act.put _ (some 23) _) _
    simp only [Act.put, List.setIfInBounds_toArray, List.set_cons_zero, List.set_cons_succ]
    refine wpAnyH_ready (rs := [13]) (by kernel_rfl) (by simp) ?_
    refine AllReadyH.cons rfl (fun K hK => ?_) AllReadyH.nil
    refine step_store_mid rfl 48 (.tmp 10) (.tmp 23) rfl (w.heap.size + 1 + 1) 0 (w8 (secN seed n a v)) rfl rfl HTH.out HS7.out (w8_one _) ?_
    refine hK.out _ _ (⟨HTX5.out.farCells (by omega) _, HPX5.out.farCells (by omega) _⟩) (fun hHeld => ?_)
    have HTX6 := Lib.hid (HTX5.out.farCells (b := (w.heap.size + 1 + 1)) (o := 0) (by omega) (w8 (secN seed n a v)))
    have HRX6 : Hid (Blk (X5.setCells (w.heap.size + 1 + 1) 0 (w8 (secN seed n a v))) (w.heap.size + 1 + 1) 48 (w8 (secN seed n a v))) := Lib.hid (by
      have h := Blk.put8 [] (List.replicate 16 0) [] (secN seed n a v) (by rw [List.nil_append, List.append_nil]; exact HRX5.out) (by rw [HLX.out]; simp) 0 rfl
      rw [List.nil_append, List.append_nil] at h
      exact h)
    have HWX6 := Lib.hid (below_cells (g := (w.heap.size + 1 + 1)) (w8 (secN seed n a v)) 0 X5 HWX5.out (by omega))
    generalize X5.setCells (w.heap.size + 1 + 1) 0 (w8 (secN seed n a v)) = X6 at hHeld HTX6 HRX6 HWX6 ⊢
    clear hK K
    show wpAnyH _ _ _ _ _ _ _ (Act.put _ none _) _
    simp only [Act.put]
    refine wpAnyH_done (by kernel_rfl) ?_ _
    go_wp2
    exact bodyPost_ret (v := .agg (w8 (secN seed n a v)).toArray) (results_cell_row Tryd.results69 _ _ (w.heap.size + 1 + 1) 48 (w8 (secN seed n a v)).toArray (0, 0) _ rfl HRX6.out Tryd.underlying48 rfl HS6.out) rfl ⟨rfl, HWX6.out⟩

end Go.Proofs.YtkonokjhpddbfaaDoor
