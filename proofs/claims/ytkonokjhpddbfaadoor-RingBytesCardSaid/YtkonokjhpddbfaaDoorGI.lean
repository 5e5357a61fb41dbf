/-
  Whether a ring's signature is right: Right (function 56); nothing that was there is written.
  The ring's laws' awake (function 42): the ring of one key of zero's seed.
-/
import Derived.Test.YtkonokjhpddbfaaDoorGH
import Derived.Test.YtkonokjhpddbfaaDoorGD
namespace Go.Proofs.YtkonokjhpddbfaaDoor
open Go.RowKit
set_option linter.unusedVariables false

/-- Is a signature right? -/
def rightN (S : List Nat) (kk : Nat) (f : Nat → List Nat) (m : Nat) (root : List Nat) (tall : Int) (key : Nat) (d : List Nat) : Bool :=
  decide ((m : Int) = tall ∧ key = kk ∧ key < pw m ∧ climbN (fromN S d) f key m = root)
theorem shr_min (key k : Nat) (hk : key < 4294967296) : (key : Int) / 2 ^ min k 32 = ((key / 2 ^ k : Nat) : Int) := by
  have h1 : (key : Int) / 2 ^ min k 32 = ((key / 2 ^ min k 32 : Nat) : Int) := by simp
  rw [h1]
  rcases Nat.le_total k 32 with h | h
  · rw [Nat.min_eq_left h]
  · rw [Nat.min_eq_right h, Nat.div_eq_of_lt (show key < 2 ^ 32 by omega), Nat.div_eq_of_lt (Nat.lt_of_lt_of_le (show key < 2 ^ 32 by omega) (Nat.pow_le_pow_right (by omega) h))]
theorem step_ld {ops : Array Oper} {o : Oper} {a : Act} {w : World} {K : Act → World → Prop} {Q : Exit → Act → World → Prop} {E : Prop} (hw : Region.wanted o (yielded ops a.tmps) = true) (ty : TypeId) (x : Operand) (ho : o.op = .load ty x)
    (b off : Nat) (hx : a.eval x = .pointer (some ⟨b, off, none⟩)) (cs : List Value) (d : TypeDesc) (hc : w.rangeAt b off cs) (hu : Tryd.prog.underlying ty = some d) (hd : d.isRow = true) (hi : (Tryd.prog.info? ty).map (·.size) = some cs.length)
    (h : K (a.put o.dst (.agg cs.toArray)) w) : if Region.wanted o (yielded ops a.tmps) = true then Oper.wp Tryd.prog o a w K Q else E := by
  rw [if_pos hw]
  exact wp_load_mid ty x ho b off hx cs d hc hu hd hi h
theorem u32_and1 (n : Nat) (h : n < 4294967296) : bits .and .u32 (n : Int) 1 = ((n % 2 : Nat) : Int) := by
  have h1 : (BitVec.ofInt 32 1).toNat = 2 ^ 1 - 1 := by decide
  have e1 : (BitVec.ofInt 32 (n : Int)).toNat = n := by rw [BitVec.toNat_ofInt]; omega
  have key : (BitVec.ofInt 32 (n : Int) &&& BitVec.ofInt 32 1).toNat = n % 2 ^ 1 := by
    rw [BitVec.toNat_and, e1, h1, Nat.and_two_pow_sub_one_eq_mod]
  show IntKind.u32.wrap ((BitVec.ofInt 32 (n : Int) &&& BitVec.ofInt 32 1).toNat : Nat) = _
  rw [key, IntKind.wrap_u32]
  omega

set_option maxRecDepth 100000 in
set_option maxHeartbeats 4000000 in
theorem right_way (S root d : List Nat) (key m : Nat) (A : Option Addr) (c : Nat) (f : Nat → List Nat) (w : World) (HT : Hid (Tab w)) (HSL : Hid (S.length = 1024)) (HSP : Hid (∀ x ∈ S, x < 256)) (HRL : Hid (root.length = 32)) (HDL : Hid (d.length = 32)) (HDP : Hid (∀ x ∈ d, x < 256))
    (HF : Hid (∀ a, (f a).length = 32)) (HFP : Hid (∀ a, ∀ x ∈ f a, x < 256)) (HY : Hid (WayR w (.slice A m c) f m)) (h1 : key < 4294967296) (hm : m ≤ 1000) (hc : c ≤ 9223372036854775807) (hmc : m ≤ c) :
    Calls Tryd.prog 56 #[.agg (rsg S key (.slice A m c)).toArray, .agg (w8 root).toArray, .int .i64 (m : Int), .int .u32 (key : Int), .agg (w8 d).toArray] w fun e w' => e = .returned (.bool (rightN S key f m root m key d)) ∧ Below w.heap.size w w' := by
  have m1 : (m : Int) ≤ 1000 := by omega
  have HI1 : Hid ((Tryd.prog.info? 56).map (·.size) = some (w8 S).length) := Lib.hid (by rw [w8_length, HSL.out]; exact info56)
  have HI2 : Hid ((Tryd.prog.info? 36).map (·.size) = some (w8 d).length) := Lib.hid (by rw [w8_length, HDL.out]; exact info36)
  have HI3 : Hid ((Tryd.prog.info? 36).map (·.size) = some (w8 root).length) := Lib.hid (by rw [w8_length, HRL.out]; exact info36)
  go_enter Tryd.func56, Tryd.ntmps56
  go_upto_region 1 with fail
  have HS : Hid (Blk (((w.alloc (.cells (rsg S key (.slice A m c)).toArray 94)).alloc (.cells (w8 root).toArray 36)).alloc (.cells (w8 d).toArray 36)) w.heap.size 94 (rsg S key (.slice A m c))) := Lib.hid (by
    have h := ((Blk.new w 94 (rsg S key (.slice A m c))).alloc (.cells (w8 root).toArray 36)).alloc (.cells (w8 d).toArray 36)
    exact h)
  have HR : Hid (Blk (((w.alloc (.cells (rsg S key (.slice A m c)).toArray 94)).alloc (.cells (w8 root).toArray 36)).alloc (.cells (w8 d).toArray 36)) (w.heap.size + 1) 36 (w8 root)) := Lib.hid (by
    have h := (Blk.new (w.alloc (.cells (rsg S key (.slice A m c)).toArray 94)) 36 (w8 root)).alloc (.cells (w8 d).toArray 36)
    rw [World.size_alloc] at h
    exact h)
  have HD : Hid (Blk (((w.alloc (.cells (rsg S key (.slice A m c)).toArray 94)).alloc (.cells (w8 root).toArray 36)).alloc (.cells (w8 d).toArray 36)) (w.heap.size + 1 + 1) 36 (w8 d)) := Lib.hid (by
    have h := Blk.new ((w.alloc (.cells (rsg S key (.slice A m c)).toArray 94)).alloc (.cells (w8 root).toArray 36)) 36 (w8 d)
    rw [World.size_alloc, World.size_alloc] at h
    exact h)
  have HW : Hid (Below w.heap.size w (((w.alloc (.cells (rsg S key (.slice A m c)).toArray 94)).alloc (.cells (w8 root).toArray 36)).alloc (.cells (w8 d).toArray 36))) := Lib.hid ((((Below.refl _ _).alloc (Nat.le_refl _) _).alloc (by simp) _).alloc (by simp; omega) _)
  generalize (((w.alloc (.cells (rsg S key (.slice A m c)).toArray 94)).alloc (.cells (w8 root).toArray 36)).alloc (.cells (w8 d).toArray 36)) = V at HS HR HD HW ⊢
  have hv2 : w.heap.size + 1 + 1 < V.heap.size := HD.out.lt
  have c1 : V.cell? ⟨w.heap.size, 1025, none⟩ = some (.slice A m c) := by rw [HS.out.cell]; exact rsg_way _ _ _ HSL.out
  have c2 : V.cell? ⟨w.heap.size, 1024, none⟩ = some (.int .u32 (key : Int)) := by rw [HS.out.cell]; exact rsg_key _ _ _ HSL.out
  go_wp2_with fail
  refine (within_any key m V h1 hm).mono ?_
  rintro e V1 ⟨rfl, hB⟩
  have HS1 := Lib.hid (HS.out.below hB HS.out.lt)
  have HR1 := Lib.hid (HR.out.below hB HR.out.lt)
  have HD1 := Lib.hid (HD.out.below hB HD.out.lt)
  have HW1 := Lib.hid (HW.out.trans (hB.mono HW.out.size))
  clear hB c1 c2 HS HR HD HW
  by_cases hw : key < pw m
  · rw [decide_eq_true hw]
    have HRG := Lib.hid (rsg_sig HS1.out HSL.out)
    have HRD := Lib.hid HD1.out.all
    go_wp2_with (first | (refine wpList_load_mid rfl 56 (.tmp 30) rfl w.heap.size 0 rfl (w8 S) _ HRG.out Tryd.underlying56 rfl HI1.out ?_) | (refine wpList_load_mid rfl 36 (.tmp 9) rfl (w.heap.size + 1 + 1) 0 rfl (w8 d) _ HRD.out Tryd.underlying36 rfl HI2.out ?_))
    clear HRG HRD
    refine (from_any S d V1 (Lib.hid (HT.out.below HW1.out HT.out.lt)) HSL HSP HDL HDP).mono ?_
    rintro e V2 ⟨rfl, hB⟩
    have HS2 := Lib.hid (HS1.out.below hB HS1.out.lt)
    have HR2 := Lib.hid (HR1.out.below hB HR1.out.lt)
    have HW2 := Lib.hid (HW1.out.trans (hB.mono HW1.out.size))
    have hv3 : w.heap.size + 1 < V2.heap.size := HR2.out.lt
    clear hB HS1 HR1 HD1 HW1
    have HFL : Hid ((fromN S d).length = 32) := Lib.hid (sha_length _)
    have HL0 := Lib.hid (heap_alloc_last V2 (.cells zsum 36))
    have HJ0 : Hid ((Tryd.prog.info? 36).map (·.size) = some (w8 (fromN S d)).toArray.size) := Lib.hid (by rw [List.size_toArray, w8_length, HFL.out]; exact info36)
    have HJ1 : Hid (zsum.size = (w8 (fromN S d)).toArray.size) := Lib.hid (Eq.trans (b := 32) rfl (by rw [List.size_toArray, w8_length, HFL.out]))
    have HJ2 := Lib.hid (all_oneCell_toArray (w8_one (fromN S d)))
    go_upto_region 4 with (first | (refine wpList_store_row rfl 36 (.tmp 11) (.tmp 33) rfl V2.heap.size (w8 (fromN S d)).toArray rfl rfl 36 _ HL0.out HJ0.out HJ1.out HJ2.out ?_; rw [World.setRow_alloc_new]))
    have hB : Below V2.heap.size V2 (V2.alloc (.cells (w8 (fromN S d)).toArray 36)) := (Below.refl _ _).alloc (Nat.le_refl _) _
    have HS3 := Lib.hid (HS2.out.below hB HS2.out.lt)
    have HR3 := Lib.hid (HR2.out.below hB HR2.out.lt)
    have HT3 : Hid (Blk (V2.alloc (.cells (w8 (fromN S d)).toArray 36)) V2.heap.size 36 (w8 (climbN (fromN S d) f key 0))) := Lib.hid (Blk.new _ _ _)
    have HW3 := Lib.hid (HW2.out.trans (hB.mono HW2.out.size))
    clear hB HS2 HR2 HW2 HL0 HJ0 HJ1 HJ2
    generalize V2.alloc (.cells (w8 (fromN S d)).toArray 36) = V3 at HS3 HR3 HT3 HW3 ⊢
    generalize V2.heap.size = gt at hv3 HT3 ⊢
    go_wp2_with fail
    go_loopw [35, 12] (fun i _ wr => ∃ (k : Nat), k ≤ m ∧ i = .int .i64 k ∧ Hid (Blk wr w.heap.size 94 (rsg S key (.slice A m c))) ∧ Hid (Blk wr (w.heap.size + 1) 36 (w8 root)) ∧ Hid (Blk wr gt 36 (w8 (climbN (fromN S d) f key k))) ∧ Hid (Below w.heap.size w wr)) (fun i _ _ => m - (intOf i).toNat)
    case atStart => exact ⟨0, Nat.zero_le _, rfl, HS3, HR3, HT3, HW3⟩
    case round =>
      clear HS3 HR3 HT3 HW3
      obtain ⟨k, hk, rfl, Sr, Rr, Tr, Br⟩ := hrel
      by_cases hlt : k < m
      · have k1 : (k : Int) < (m : Int) := by omega
        have k2 : (k : Int) ≤ 1000 := by omega
        obtain ⟨A', c', hA, h2⟩ := HY.out
        injection hA with hA1 hA2 hA3
        subst hA1
        subst hA3
        obtain ⟨gw, o, rfl, hgw, hcell⟩ : ∃ g o, A = some ⟨g, o, none⟩ ∧ g < w.heap.size ∧ ∀ i, i < m → w.rangeAt g (o + i * 32) (w8 (f i)) := by
          rcases h2 with h2 | h2
          · omega
          · exact h2
        have hcell1 := hcell k hlt
        have Fr : Hid (∀ j u, (w8 (f k))[j]? = some u → wr.cell? ⟨gw, o + k * 32 + j, none⟩ = some u) := Lib.hid fun j u hu => (Br.out.cell (p := ⟨gw, o + k * 32 + j, none⟩) hgw).trans (hcell1 j u hu)
        clear hcell hcell1 h2
        have HC1 := Lib.hid (climbN_length (fromN S d) f key HFL.out k)
        have HC2 := Lib.hid (climbN_lt (fromN S d) f key (sha_lt _) k)
        have HF1 := Lib.hid (HF.out k)
        have HF2 := Lib.hid (HFP.out k)
        have HI1 : Hid ((Tryd.prog.info? 36).map (·.size) = some (w8 (climbN (fromN S d) f key k)).length) := Lib.hid (by rw [w8_length, HC1.out]; exact info36)
        have HI2 : Hid ((Tryd.prog.info? 36).map (·.size) = some (w8 (f k)).length) := Lib.hid (by rw [w8_length, HF1.out]; exact info36)
        have hkq : key / 2 ^ k < 4294967296 := Nat.lt_of_le_of_lt (Nat.div_le_self _ _) h1
        have hshr := shr_min key k h1
        have hand := u32_and1 (key / 2 ^ k) hkq
        rw [← hshr] at hand
        have hgwt : gw ≠ gt := by omega
        by_cases hpar : key / 2 ^ k % 2 = 0
        · have hp2 : bits .and .u32 ((key : Int) / 2 ^ min k 32) 1 = 0 := by rw [hand, hpar]; rfl
          clear hand hshr
          have HJ1 : Hid ((Tryd.prog.info? 36).map (·.size) = some (w8 (joinN (climbN (fromN S d) f key k) (f k))).length) := Lib.hid (by rw [w8_length, joinN_length]; exact info36)
          have HJ2 : Hid ((w8 (climbN (fromN S d) f key k)).length = (w8 (joinN (climbN (fromN S d) f key k) (f k))).length) := Lib.hid (by rw [w8_length, w8_length, joinN_length, HC1.out])
          go_upto_region 8 with fail
          have hBz : Below wr.heap.size wr wr.drew := below_drewN (Below.refl _ _) 1
          have SX0 : Hid (Blk wr.drew w.heap.size 94 (rsg S key (.slice (some ⟨gw, o, none⟩) m c))) := Lib.hid (Sr.out.below hBz Sr.out.lt)
          have RX0 : Hid (Blk wr.drew (w.heap.size + 1) 36 (w8 root)) := Lib.hid (Rr.out.below hBz Rr.out.lt)
          have TX0 : Hid (Blk wr.drew gt 36 (w8 (climbN (fromN S d) f key k))) := Lib.hid (Tr.out.below hBz Tr.out.lt)
          have FX0 : Hid (∀ j u, (w8 (f k))[j]? = some u → wr.drew.cell? ⟨gw, o + k * 32 + j, none⟩ = some u) := Lib.hid (fun j u hu => (hBz.cell (p := ⟨gw, o + k * 32 + j, none⟩) (World.block_lt_of_cell? _ _ (Fr.out j u hu))).trans (Fr.out j u hu))
          have BX0 : Hid (Below w.heap.size w wr.drew) := Lib.hid (Br.out.trans (hBz.mono Br.out.size))
          clear hBz
          refine wp_region_held_drew (S := fun w' => Blk w' w.heap.size 94 (rsg S key (.slice (some ⟨gw, o, none⟩) m c)) ∧ ∀ j u, (w8 (f k))[j]? = some u → w'.cell? ⟨gw, o + k * 32 + j, none⟩ = some u) (by kernel_rfl) (⟨SX0.out, FX0.out⟩) (fun hHeld => ?_)
          generalize wr.drew = X0 at hHeld SX0 RX0 TX0 FX0 BX0 ⊢
          refine wpAnyH_take (i := 1) (v := .pointer (some ⟨w.heap.size, 1025, none⟩)) rfl (by kernel_rfl) (by kernel_rfl) (by kernel_rfl) (fun _ _ _ h => h) (Or.inl ⟨by rfl, by intro w' h; go_simp⟩) hHeld ?_
          show wpAnyH _ _ _ _ _ _ _ (Act.put _ (some 44) _) _
          simp only [Act.put, List.setIfInBounds_toArray, List.set_cons_zero, List.set_cons_succ]
          refine wpAnyH_take (i := 2) (v := .slice (some ⟨gw, o, none⟩) m c) rfl (by kernel_rfl) (by kernel_rfl) (by kernel_rfl) (fun _ _ _ h => h) (Or.inl ⟨by rfl, by intro w' h; have q := h.1.cell 1025; rw [rsg_way _ _ _ HSL.out] at q; go_simp⟩) hHeld ?_
          show wpAnyH _ _ _ _ _ _ _ (Act.put _ (some 45) _) _
          simp only [Act.put, List.setIfInBounds_toArray, List.set_cons_zero, List.set_cons_succ]
          refine wpAnyH_take (i := 3) (v := .int .i64 (k : Int)) rfl (by kernel_rfl) (by kernel_rfl) (by kernel_rfl) (fun _ _ _ h => h) (Or.inl ⟨by rfl, fun w _ => by rfl⟩) hHeld ?_
          show wpAnyH _ _ _ _ _ _ _ (Act.put _ (some 46) _) _
          simp only [Act.put, List.setIfInBounds_toArray, List.set_cons_zero, List.set_cons_succ]
          refine wpAnyH_take (i := 4) (v := .pointer (some ⟨gw, o + k * 32, none⟩)) rfl (by kernel_rfl) (by kernel_rfl) (by kernel_rfl) (fun _ _ _ h => h) (Or.inl ⟨by rfl, by intro w' h; go_simp⟩) hHeld ?_
          show wpAnyH _ _ _ _ _ _ _ (Act.put _ (some 47) _) _
          simp only [Act.put, List.setIfInBounds_toArray, List.set_cons_zero, List.set_cons_succ]
          refine wpAnyH_take (i := 5) (v := .agg (w8 (f k)).toArray) rfl (by kernel_rfl) (by kernel_rfl) (by kernel_rfl) (fun _ _ _ h => h) (yieldsIf_load_mid (by rfl) 36 (.tmp 47) rfl gw (o + k * 32) rfl (w8 (f k)) _ (fun w' h => h.2) Tryd.underlying36 rfl HI2.out) hHeld ?_
          show wpAnyH _ _ _ _ _ _ _ (Act.put _ (some 48) _) _
          simp only [Act.put, List.setIfInBounds_toArray, List.set_cons_zero, List.set_cons_succ]
          refine wpAnyH_ready (rs := [0]) (by kernel_rfl) (by simp) ?_
          refine AllReadyH.cons rfl (fun K hK => ?_) AllReadyH.nil
          refine step_ld rfl 36 (.tmp 11) rfl gt 0 rfl (w8 (climbN (fromN S d) f key k)) _ TX0.out.all Tryd.underlying36 rfl HI1.out ?_
          refine hK.out _ _ (⟨SX0.out, FX0.out⟩) (fun hHeld => ?_)
          clear hK K
          show wpAnyH _ _ _ _ _ _ _ (Act.put _ (some 43) _) _
          simp only [Act.put, List.setIfInBounds_toArray, List.set_cons_zero, List.set_cons_succ]
          refine wpAnyH_ready (rs := [6]) (by kernel_rfl) (by simp) ?_
          refine AllReadyH.cons rfl (fun K hK => ?_) AllReadyH.nil
          refine step_call rfl 82 #[.tmp 43, .tmp 48] #[36, 36] rfl #[.agg (w8 (climbN (fromN S d) f key k)).toArray, .agg (w8 (f k)).toArray] (by simp [Act.eval]) (by go_simp) (join_any (climbN (fromN S d) f key k) (f k) X0 (Lib.hid (HT.out.below BX0.out HT.out.lt)) HC1 HC2 HF1 HF2) ?_
          rintro e X2 ⟨rfl, hB⟩
          have SX2 : Hid (Blk X2 w.heap.size 94 (rsg S key (.slice (some ⟨gw, o, none⟩) m c))) := Lib.hid (SX0.out.below hB SX0.out.lt)
          have RX2 : Hid (Blk X2 (w.heap.size + 1) 36 (w8 root)) := Lib.hid (RX0.out.below hB RX0.out.lt)
          have TX2 : Hid (Blk X2 gt 36 (w8 (climbN (fromN S d) f key k))) := Lib.hid (TX0.out.below hB TX0.out.lt)
          have FX2 : Hid (∀ j u, (w8 (f k))[j]? = some u → X2.cell? ⟨gw, o + k * 32 + j, none⟩ = some u) := Lib.hid (fun j u hu => (hB.cell (p := ⟨gw, o + k * 32 + j, none⟩) (World.block_lt_of_cell? _ _ (FX0.out j u hu))).trans (FX0.out j u hu))
          have BX2 : Hid (Below w.heap.size w X2) := Lib.hid (BX0.out.trans (hB.mono BX0.out.size))
          clear SX0 RX0 TX0 FX0 BX0 hB
          refine ⟨_, rfl, hK.out _ _ (⟨SX2.out, FX2.out⟩) (fun hHeld => ?_)⟩
          clear hK K
          show wpAnyH _ _ _ _ _ _ _ (Act.put _ (some 49) _) _
          simp only [Act.put, List.setIfInBounds_toArray, List.set_cons_zero, List.set_cons_succ]
          refine wpAnyH_ready (rs := [7]) (by kernel_rfl) (by simp) ?_
          refine AllReadyH.cons rfl (fun K hK => ?_) AllReadyH.nil
          refine Kt.step_store rfl 36 (.tmp 11) (.tmp 49) rfl gt (w8 (joinN (climbN (fromN S d) f key k) (f k))) rfl rfl 36 _ TX2.out HJ1.out HJ2.out (all_oneCell_toArray (w8_one _)) ?_
          intro X3 hZ hO
          have SE := Lib.hid (SX2.out.grown hO (fun e => by injection e with e; omega))
          have RE := Lib.hid (RX2.out.grown hO (fun e => by injection e with e; omega))
          have TE := Lib.hid hZ
          have FE : Hid (∀ j u, (w8 (f k))[j]? = some u → X3.cell? ⟨gw, o + k * 32 + j, none⟩ = some u) := Lib.hid fun j u hu => (World.cell?_of_block (a := ⟨gw, o + k * 32 + j, none⟩) (hO.block gw (World.block_lt_of_cell? _ _ (FX2.out j u hu)) (fun e => by injection e with e; omega))).trans (FX2.out j u hu)
          have BE := Lib.hid (BX2.out.trans (only_up hO (by omega) BX2.out.size))
          clear hZ hO SX2 RX2 TX2 FX2 BX2
          refine hK.out _ _ (⟨SE.out, FE.out⟩) (fun hHeld => ?_)
          clear hK K
          show wpAnyH _ _ _ _ _ _ _ (Act.put _ none _) _
          simp only [Act.put]
          refine wpAnyH_done (by kernel_rfl) ?_ _
          clear hHeld FE
          have TE2 : Hid (Blk X3 gt 36 (w8 (climbN (fromN S d) f key (k + 1)))) := Lib.hid (by unfold climbN; rw [if_pos hpar]; exact TE.out)
          clear TE
          go_wp2
          go_roundw
          case rel => exact ⟨k + 1, by omega, by go_num, SE, RE, TE2, BE⟩
          case measure => simp [intOf]; omega
        · have hp2 : bits .and .u32 ((key : Int) / 2 ^ min k 32) 1 = 1 := by rw [hand, show key / 2 ^ k % 2 = 1 by omega]; rfl
          clear hand hshr
          have HJ1 : Hid ((Tryd.prog.info? 36).map (·.size) = some (w8 (joinN (f k) (climbN (fromN S d) f key k))).length) := Lib.hid (by rw [w8_length, joinN_length]; exact info36)
          have HJ2 : Hid ((w8 (climbN (fromN S d) f key k)).length = (w8 (joinN (f k) (climbN (fromN S d) f key k))).length) := Lib.hid (by rw [w8_length, w8_length, joinN_length, HC1.out])
          go_upto_region 9 with fail
          have hBz : Below wr.heap.size wr wr.drew := below_drewN (Below.refl _ _) 1
          have SX0 : Hid (Blk wr.drew w.heap.size 94 (rsg S key (.slice (some ⟨gw, o, none⟩) m c))) := Lib.hid (Sr.out.below hBz Sr.out.lt)
          have RX0 : Hid (Blk wr.drew (w.heap.size + 1) 36 (w8 root)) := Lib.hid (Rr.out.below hBz Rr.out.lt)
          have TX0 : Hid (Blk wr.drew gt 36 (w8 (climbN (fromN S d) f key k))) := Lib.hid (Tr.out.below hBz Tr.out.lt)
          have FX0 : Hid (∀ j u, (w8 (f k))[j]? = some u → wr.drew.cell? ⟨gw, o + k * 32 + j, none⟩ = some u) := Lib.hid (fun j u hu => (hBz.cell (p := ⟨gw, o + k * 32 + j, none⟩) (World.block_lt_of_cell? _ _ (Fr.out j u hu))).trans (Fr.out j u hu))
          have BX0 : Hid (Below w.heap.size w wr.drew) := Lib.hid (Br.out.trans (hBz.mono Br.out.size))
          clear hBz
          refine wp_region_held_drew (S := fun w' => Blk w' w.heap.size 94 (rsg S key (.slice (some ⟨gw, o, none⟩) m c)) ∧ ∀ j u, (w8 (f k))[j]? = some u → w'.cell? ⟨gw, o + k * 32 + j, none⟩ = some u) (by kernel_rfl) (⟨SX0.out, FX0.out⟩) (fun hHeld => ?_)
          generalize wr.drew = X0 at hHeld SX0 RX0 TX0 FX0 BX0 ⊢
          refine wpAnyH_take (i := 0) (v := .pointer (some ⟨w.heap.size, 1025, none⟩)) rfl (by kernel_rfl) (by kernel_rfl) (by kernel_rfl) (fun _ _ _ h => h) (Or.inl ⟨by rfl, by intro w' h; go_simp⟩) hHeld ?_
          show wpAnyH _ _ _ _ _ _ _ (Act.put _ (some 50) _) _
          simp only [Act.put, List.setIfInBounds_toArray, List.set_cons_zero, List.set_cons_succ]
          refine wpAnyH_take (i := 1) (v := .slice (some ⟨gw, o, none⟩) m c) rfl (by kernel_rfl) (by kernel_rfl) (by kernel_rfl) (fun _ _ _ h => h) (Or.inl ⟨by rfl, by intro w' h; have q := h.1.cell 1025; rw [rsg_way _ _ _ HSL.out] at q; go_simp⟩) hHeld ?_
          show wpAnyH _ _ _ _ _ _ _ (Act.put _ (some 51) _) _
          simp only [Act.put, List.setIfInBounds_toArray, List.set_cons_zero, List.set_cons_succ]
          refine wpAnyH_take (i := 2) (v := .int .i64 (k : Int)) rfl (by kernel_rfl) (by kernel_rfl) (by kernel_rfl) (fun _ _ _ h => h) (Or.inl ⟨by rfl, fun w _ => by rfl⟩) hHeld ?_
          show wpAnyH _ _ _ _ _ _ _ (Act.put _ (some 52) _) _
          simp only [Act.put, List.setIfInBounds_toArray, List.set_cons_zero, List.set_cons_succ]
          refine wpAnyH_take (i := 3) (v := .pointer (some ⟨gw, o + k * 32, none⟩)) rfl (by kernel_rfl) (by kernel_rfl) (by kernel_rfl) (fun _ _ _ h => h) (Or.inl ⟨by rfl, by intro w' h; go_simp⟩) hHeld ?_
          show wpAnyH _ _ _ _ _ _ _ (Act.put _ (some 53) _) _
          simp only [Act.put, List.setIfInBounds_toArray, List.set_cons_zero, List.set_cons_succ]
          refine wpAnyH_take (i := 4) (v := .agg (w8 (f k)).toArray) rfl (by kernel_rfl) (by kernel_rfl) (by kernel_rfl) (fun _ _ _ h => h) (yieldsIf_load_mid (by rfl) 36 (.tmp 53) rfl gw (o + k * 32) rfl (w8 (f k)) _ (fun w' h => h.2) Tryd.underlying36 rfl HI2.out) hHeld ?_
          show wpAnyH _ _ _ _ _ _ _ (Act.put _ (some 54) _) _
          simp only [Act.put, List.setIfInBounds_toArray, List.set_cons_zero, List.set_cons_succ]
          refine wpAnyH_ready (rs := [5]) (by kernel_rfl) (by simp) ?_
          refine AllReadyH.cons rfl (fun K hK => ?_) AllReadyH.nil
          refine step_ld rfl 36 (.tmp 11) rfl gt 0 rfl (w8 (climbN (fromN S d) f key k)) _ TX0.out.all Tryd.underlying36 rfl HI1.out ?_
          refine hK.out _ _ (⟨SX0.out, FX0.out⟩) (fun hHeld => ?_)
          clear hK K
          show wpAnyH _ _ _ _ _ _ _ (Act.put _ (some 55) _) _
          simp only [Act.put, List.setIfInBounds_toArray, List.set_cons_zero, List.set_cons_succ]
          refine wpAnyH_ready (rs := [6]) (by kernel_rfl) (by simp) ?_
          refine AllReadyH.cons rfl (fun K hK => ?_) AllReadyH.nil
          refine step_call rfl 82 #[.tmp 54, .tmp 55] #[36, 36] rfl #[.agg (w8 (f k)).toArray, .agg (w8 (climbN (fromN S d) f key k)).toArray] (by simp [Act.eval]) (by go_simp) (join_any (f k) (climbN (fromN S d) f key k) X0 (Lib.hid (HT.out.below BX0.out HT.out.lt)) HF1 HF2 HC1 HC2) ?_
          rintro e X2 ⟨rfl, hB⟩
          have SX2 : Hid (Blk X2 w.heap.size 94 (rsg S key (.slice (some ⟨gw, o, none⟩) m c))) := Lib.hid (SX0.out.below hB SX0.out.lt)
          have RX2 : Hid (Blk X2 (w.heap.size + 1) 36 (w8 root)) := Lib.hid (RX0.out.below hB RX0.out.lt)
          have TX2 : Hid (Blk X2 gt 36 (w8 (climbN (fromN S d) f key k))) := Lib.hid (TX0.out.below hB TX0.out.lt)
          have FX2 : Hid (∀ j u, (w8 (f k))[j]? = some u → X2.cell? ⟨gw, o + k * 32 + j, none⟩ = some u) := Lib.hid (fun j u hu => (hB.cell (p := ⟨gw, o + k * 32 + j, none⟩) (World.block_lt_of_cell? _ _ (FX0.out j u hu))).trans (FX0.out j u hu))
          have BX2 : Hid (Below w.heap.size w X2) := Lib.hid (BX0.out.trans (hB.mono BX0.out.size))
          clear SX0 RX0 TX0 FX0 BX0 hB
          refine ⟨_, rfl, hK.out _ _ (⟨SX2.out, FX2.out⟩) (fun hHeld => ?_)⟩
          clear hK K
          show wpAnyH _ _ _ _ _ _ _ (Act.put _ (some 56) _) _
          simp only [Act.put, List.setIfInBounds_toArray, List.set_cons_zero, List.set_cons_succ]
          refine wpAnyH_ready (rs := [7]) (by kernel_rfl) (by simp) ?_
          refine AllReadyH.cons rfl (fun K hK => ?_) AllReadyH.nil
          refine Kt.step_store rfl 36 (.tmp 11) (.tmp 56) rfl gt (w8 (joinN (f k) (climbN (fromN S d) f key k))) rfl rfl 36 _ TX2.out HJ1.out HJ2.out (all_oneCell_toArray (w8_one _)) ?_
          intro X3 hZ hO
          have SE := Lib.hid (SX2.out.grown hO (fun e => by injection e with e; omega))
          have RE := Lib.hid (RX2.out.grown hO (fun e => by injection e with e; omega))
          have TE := Lib.hid hZ
          have FE : Hid (∀ j u, (w8 (f k))[j]? = some u → X3.cell? ⟨gw, o + k * 32 + j, none⟩ = some u) := Lib.hid fun j u hu => (World.cell?_of_block (a := ⟨gw, o + k * 32 + j, none⟩) (hO.block gw (World.block_lt_of_cell? _ _ (FX2.out j u hu)) (fun e => by injection e with e; omega))).trans (FX2.out j u hu)
          have BE := Lib.hid (BX2.out.trans (only_up hO (by omega) BX2.out.size))
          clear hZ hO SX2 RX2 TX2 FX2 BX2
          refine hK.out _ _ (⟨SE.out, FE.out⟩) (fun hHeld => ?_)
          clear hK K
          show wpAnyH _ _ _ _ _ _ _ (Act.put _ none _) _
          simp only [Act.put]
          refine wpAnyH_done (by kernel_rfl) ?_ _
          clear hHeld FE
          have TE2 : Hid (Blk X3 gt 36 (w8 (climbN (fromN S d) f key (k + 1)))) := Lib.hid (by unfold climbN; rw [if_neg hpar]; exact TE.out)
          clear TE
          go_wp2
          go_roundw
          case rel => exact ⟨k + 1, by omega, by go_num, SE, RE, TE2, BE⟩
          case measure => simp [intOf]; omega
      · obtain rfl : k = m := by omega
        have HC1 := Lib.hid (climbN_length (fromN S d) f key HFL.out k)
        have HI1 : Hid ((Tryd.prog.info? 36).map (·.size) = some (w8 (climbN (fromN S d) f key k)).length) := Lib.hid (by rw [w8_length, HC1.out]; exact info36)
        have HRT := Lib.hid Tr.out.all
        have HRR := Lib.hid Rr.out.all
        have HRV : Hid (rightN S key f k root k key d = decide (climbN (fromN S d) f key k = root)) := Lib.hid (by
          unfold rightN
          rw [decide_eq_decide]
          exact ⟨fun h => h.2.2.2, fun h => ⟨rfl, rfl, hw, h⟩⟩)
        have hq : ∀ W : World, (binOp .eql 36 (.agg (w8 (climbN (fromN S d) f key k)).toArray) (.agg (w8 root).toArray)).run Tryd.prog W = .ok (.bool (decide (climbN (fromN S d) f key k = root))) W := fun W => eql_row Tryd.underlying36 _ _ HC1.out HRL.out W
        generalize climbN (fromN S d) f key k = cur at *
        go_wp2_with (first | (refine wpList_load_mid rfl 36 (.tmp 11) rfl gt 0 rfl (w8 cur) _ HRT.out Tryd.underlying36 rfl HI1.out ?_) | (refine wpList_load_mid rfl 36 (.tmp 6) rfl (w.heap.size + 1) 0 rfl (w8 root) _ HRR.out Tryd.underlying36 rfl HI3.out ?_))
        go_ret
        exact ⟨by rw [HRV.out]; rfl, Br.out⟩
  · rw [decide_eq_false hw]
    go_wp2
    go_ret
    exact ⟨by have hf : rightN S key f m root m key d = false := decide_eq_false (fun h => hw h.2.2.1); rw [hf]; rfl, HW1.out⟩
end Go.Proofs.YtkonokjhpddbfaaDoor
namespace Go.Proofs.YtkonokjhpddbfaaDoor
open Go.RowKit
set_option linter.unusedVariables false

theorem right_sign (seed d : List Nat) (key tall gw : Nat) (w : World) (HT : Hid (Tab w)) (HL : Hid (seed.length = 32)) (HDL : Hid (d.length = 32)) (HDP : Hid (∀ x ∈ d, x < 256)) (HY : Hid (Blk w gw 36 (w8 (rows (wayN seed key) tall)))) (hk : key < pw tall) (ht : tall ≤ 8) :
    Calls Tryd.prog 56 #[.agg (rsg (signN seed key d) key (.slice (some ⟨gw, 0, none⟩) tall tall)).toArray, .agg (w8 (rootN seed tall)).toArray, .int .i64 (tall : Int), .int .u32 (key : Int), .agg (w8 d).toArray] w fun e w' => e = .returned (.bool true) ∧ Below w.heap.size w w' := by
  have hk2 : key < 256 := Nat.lt_of_lt_of_le hk (pw_le tall ht)
  have h := right_way (signN seed key d) (rootN seed tall) d key tall (some ⟨gw, 0, none⟩) tall (wayN seed key) w HT (Lib.hid (signN_length _ _ _)) (Lib.hid (signN_lt _ _ _)) (Lib.hid (rootN_length _ _)) HDL HDP (Lib.hid (wayN_length seed key)) (Lib.hid (wayN_lt seed key)) (Lib.hid (WayR.blk (wayN seed key) (wayN_length seed key) HY.out)) (by omega) (by omega) (by omega) (Nat.le_refl _)
  have hr : rightN (signN seed key d) key (wayN seed key) tall (rootN seed tall) tall key d = true := by
    unfold rightN
    rw [from_sign]
    exact decide_eq_true ⟨rfl, rfl, hk, climb_root seed key tall hk⟩
  rw [hr] at h
  exact h

def dig1 : List Nat := 1 :: List.replicate 31 0
def zdig1 : Array Value := #[.int .u8 1, .int .u8 0, .int .u8 0, .int .u8 0, .int .u8 0, .int .u8 0, .int .u8 0, .int .u8 0, .int .u8 0, .int .u8 0, .int .u8 0, .int .u8 0, .int .u8 0, .int .u8 0, .int .u8 0, .int .u8 0, .int .u8 0, .int .u8 0, .int .u8 0, .int .u8 0, .int .u8 0, .int .u8 0, .int .u8 0, .int .u8 0, .int .u8 0, .int .u8 0, .int .u8 0, .int .u8 0, .int .u8 0, .int .u8 0, .int .u8 0, .int .u8 0]
theorem zdig1_eq : (w8 dig1).toArray = zdig1 := by kernel_rfl
theorem build1 (w : World) : (Instr.build 36 #[(0, .int .u8 1)]).run Tryd.prog w = .ok (.agg zdig1) w := run_build w 36 _ _ (by kernel_rfl)
theorem d1_ex : ∃ ds : List Nat, (w8 ds).toArray = zdig1 ∧ ds.length = 32 ∧ (∀ x ∈ ds, x < 256) := ⟨dig1, zdig1_eq, by simp [dig1], by intro x hx; simp [dig1] at hx; omega⟩

set_option maxRecDepth 100000 in
set_option maxHeartbeats 2000000 in
theorem awake5_any (w : World) (HT : Hid (Tab w)) : Calls Tryd.prog 42 #[] w fun e w' => e = .returned (.bool true) ∧ Below w.heap.size w w' := by
  obtain ⟨zs, hz0, hz1, hz2, _⟩ := zs_ex
  obtain ⟨ds, hd0, hd1, hd2⟩ := d1_ex
  have HZ0 := Lib.hid hz0
  have HZ1 := Lib.hid hz1
  have HZ2 := Lib.hid hz2
  have HD0 := Lib.hid hd0
  have HD1 := Lib.hid hd1
  have HD2 := Lib.hid hd2
  clear hz0 hz1 hz2 hd0 hd1 hd2
  have hp : 0 < pw 0 := by decide
  go_enter Tryd.func42, Tryd.ntmps42
  go_wp2_with fail
  have hc := new_ring zs 0 w HT HZ1 HZ2 (by omega)
  rw [HZ0.out] at hc
  unfold zsum at hc
  refine hc.mono ?_
  clear hc
  rintro e w1 ⟨g, v, rfl, hR, hB⟩
  have HR := Lib.hid hR
  have HW := Lib.hid hB
  clear hR hB
  have hgw : w.heap.size ≤ g := HR.out.bas
  go_wp2_with (first | (refine wpList_built rfl 36 #[(0, .const (.int .u8 1))] rfl #[(0, .int .u8 1)] (by simp [Act.eval]) _ (build1 _) ?_))
  have hc := sign_ok g 0 zs ds 0 w.heap.size (List.replicate 256 false) v w1 HR (Lib.hid (HT.out.below HW.out HT.out.lt)) HD1 HD2 hp rfl
  rw [HD0.out] at hc
  refine hc.mono ?_
  clear hc
  rintro e w2 ⟨gw, rfl, hY, hgw2, hR, hG⟩
  have HR2 := Lib.hid hR
  have HY2 := Lib.hid hY
  have HW2 : Hid (Below w.heap.size w w2) := Lib.hid (HW.out.trans (only_up hG hgw HW.out.size))
  clear hR hY hG HR HW
  have HSL : Hid ((signN zs 0 ds).length = 1024) := Lib.hid (signN_length _ _ _)
  have HLS : Hid ((rsg (signN zs 0 ds) 0 (.slice (some ⟨gw, 0, none⟩) 0 0)).length = 1026) := Lib.hid (rsg_length _ _ _ HSL.out)
  have HL2 := Lib.hid (heap_alloc_last w2 (.cells Tryd.zeroCells94 94))
  have HS2 : Hid ((Tryd.prog.info? 94).map (·.size) = some (rsg (signN zs 0 ds) 0 (.slice (some ⟨gw, 0, none⟩) 0 0)).toArray.size) := Lib.hid (by rw [List.size_toArray, HLS.out]; exact info94)
  have HZ3 : Hid (Tryd.zeroCells94.size = (rsg (signN zs 0 ds) 0 (.slice (some ⟨gw, 0, none⟩) 0 0)).toArray.size) := Lib.hid (by rw [← zsig_arr, List.size_toArray, List.size_toArray, HLS.out, zsig_length])
  have HO2 := Lib.hid (all_oneCell_toArray (rsg_one (signN zs 0 ds) 0 (.slice (some ⟨gw, 0, none⟩) 0 0) rfl))
  go_upto_region 3 with (first | (refine wpList_store_row rfl 94 (.tmp 3) (.tmp 16) rfl w2.heap.size (rsg (signN zs 0 ds) 0 (.slice (some ⟨gw, 0, none⟩) 0 0)).toArray rfl rfl 94 _ HL2.out HS2.out HZ3.out HO2.out ?_; rw [World.setRow_alloc_new]))
  have hB : Below w2.heap.size w2 (w2.alloc (.cells (rsg (signN zs 0 ds) 0 (.slice (some ⟨gw, 0, none⟩) 0 0)).toArray 94)) := (Below.refl _ _).alloc (Nat.le_refl _) _
  have HS : Hid (Blk (w2.alloc (.cells (rsg (signN zs 0 ds) 0 (.slice (some ⟨gw, 0, none⟩) 0 0)).toArray 94)) w2.heap.size 94 (rsg (signN zs 0 ds) 0 (.slice (some ⟨gw, 0, none⟩) 0 0))) := Lib.hid (Blk.new _ _ _)
  have HR3 := Lib.hid (HR2.out.below hB)
  have HY3 := Lib.hid (HY2.out.below hB HY2.out.lt)
  have HW3 := Lib.hid (HW2.out.trans (hB.mono HW2.out.size))
  clear hB HR2 HY2 HW2 HL2 HZ3
  generalize w2.alloc (.cells (rsg (signN zs 0 ds) 0 (.slice (some ⟨gw, 0, none⟩) 0 0)).toArray 94) = V at HS HR3 HY3 HW3 ⊢
  generalize w2.heap.size = gs at HS ⊢
  go_wp2_with (first | (refine wpList_built rfl 36 #[(0, .const (.int .u8 1))] rfl #[(0, .int .u8 1)] (by simp [Act.eval]) _ (build1 _) ?_))
  have hc := sign_spent g 0 zs ds 0 w.heap.size ((List.replicate 256 false).set 0 true) v V HR3 hp rfl
  rw [HD0.out] at hc
  refine hc.mono ?_
  clear hc
  rintro e V2 ⟨rfl, hB⟩
  have HS4 := Lib.hid (HS.out.below hB HS.out.lt)
  have HR4 := Lib.hid (HR3.out.below hB)
  have HY4 := Lib.hid (HY3.out.below hB HY3.out.lt)
  have HW4 := Lib.hid (HW3.out.trans (hB.mono HW3.out.size))
  clear hB HS HR3 HY3 HW3
  have HLZ : Hid (zsig.length = 1026) := Lib.hid (zsig_length)
  have HL4 := Lib.hid (heap_alloc_last V2 (.cells Tryd.zeroCells94 94))
  have HS5 : Hid ((Tryd.prog.info? 94).map (·.size) = some zsig.toArray.size) := Lib.hid (by rw [List.size_toArray, HLZ.out]; exact info94)
  have HZ5 : Hid (Tryd.zeroCells94.size = zsig.toArray.size) := Lib.hid (by rw [zsig_arr])
  have HO5 := Lib.hid (all_oneCell_toArray zsig_one)
  go_upto_region 4 with (first | (refine wpList_store_row rfl 94 (.tmp 5) (.tmp 22) rfl V2.heap.size zsig.toArray rfl rfl 94 _ HL4.out HS5.out HZ5.out HO5.out ?_; rw [World.setRow_alloc_new]))
  have hB : Below V2.heap.size V2 (V2.alloc (.cells zsig.toArray 94)) := (Below.refl _ _).alloc (Nat.le_refl _) _
  have S := Lib.hid (HS4.out.below hB HS4.out.lt)
  have R := Lib.hid (HR4.out.below hB)
  have Y := Lib.hid (HY4.out.below hB HY4.out.lt)
  have B := Lib.hid (HW4.out.trans (hB.mono HW4.out.size))
  clear hB HS4 HR4 HY4 HW4 HL4 HS5 HZ5 HO5 HLZ
  generalize V2.alloc (.cells zsig.toArray 94) = V3 at S R Y B ⊢
  have HRT : Hid (∀ X : World, Tab X → Hid (Blk X gw 36 (w8 (rows (wayN zs 0) 0))) → Calls Tryd.prog 56 #[.agg (rsg (signN zs 0 ds) 0 (.slice (some ⟨gw, 0, none⟩) 0 0)).toArray, .agg (w8 (rootN zs 0)).toArray, .int .i64 0, .int .u32 0, .agg zdig1] X fun e w' => e = .returned (.bool true) ∧ Below X.heap.size X w') := Lib.hid fun X hT hY => by
    have h := right_sign zs ds 0 0 gw X (Lib.hid hT) HZ1 HD1 HD2 hY hp (by omega)
    rw [HD0.out] at h
    exact h
  have hBz : Below V3.heap.size V3 V3.drew := below_drewN (Below.refl _ _) 1
  have SX0 : Hid (Blk V3.drew gs 94 (rsg (signN zs 0 ds) 0 (.slice (some ⟨gw, 0, none⟩) 0 0))) := Lib.hid (S.out.below hBz S.out.lt)
  have RX0 : Hid (RingAt V3.drew w.heap.size g zs 0 ((List.replicate 256 false).set 0 true) v) := Lib.hid (R.out.below hBz)
  have YX0 : Hid (Blk V3.drew gw 36 (w8 (rows (wayN zs 0) 0))) := Lib.hid (Y.out.below hBz Y.out.lt)
  have BX0 : Hid (Below w.heap.size w V3.drew) := Lib.hid (B.out.trans (hBz.mono B.out.size))
  clear hBz
  refine wp_region_held_drew (S := fun w' => Blk w' gs 94 (rsg (signN zs 0 ds) 0 (.slice (some ⟨gw, 0, none⟩) 0 0))) (by kernel_rfl) (SX0.out) (fun hHeld => ?_)
  generalize V3.drew = X0 at hHeld SX0 RX0 YX0 BX0 ⊢
  refine wpAnyH_take (i := 0) (v := .int .i64 0) rfl (by kernel_rfl) (by kernel_rfl) (by kernel_rfl) (fun _ _ _ h => h) (Or.inl ⟨by rfl, fun w _ => by rfl⟩) hHeld ?_
  show wpAnyH _ _ _ _ _ _ _ (Act.put _ (some 24) _) _
  simp only [Act.put, List.setIfInBounds_toArray, List.set_cons_zero, List.set_cons_succ]
  refine wpAnyH_take (i := 1) (v := .bool true) rfl (by kernel_rfl) (by kernel_rfl) (by kernel_rfl) (fun _ _ _ h => h) (Or.inl ⟨by rfl, by intro w' h; go_simp⟩) hHeld ?_
  show wpAnyH _ _ _ _ _ _ _ (Act.put _ (some 25) _) _
  simp only [Act.put, List.setIfInBounds_toArray, List.set_cons_zero, List.set_cons_succ]
  refine wpAnyH_take (i := 2) (v := .bool true) rfl (by kernel_rfl) (by kernel_rfl) (by kernel_rfl) (fun _ _ _ h => h) (Or.inl ⟨by rfl, fun w _ => by rfl⟩) hHeld ?_
  show wpAnyH _ _ _ _ _ _ _ (Act.put _ (some 26) _) _
  simp only [Act.put, List.setIfInBounds_toArray, List.set_cons_zero, List.set_cons_succ]
  refine wpAnyH_take (i := 3) (v := .int .i64 0) rfl (by kernel_rfl) (by kernel_rfl) (by kernel_rfl) (fun _ _ _ h => h) (Or.inl ⟨by rfl, fun w _ => by rfl⟩) hHeld ?_
  show wpAnyH _ _ _ _ _ _ _ (Act.put _ (some 27) _) _
  simp only [Act.put, List.setIfInBounds_toArray, List.set_cons_zero, List.set_cons_succ]
  refine wpAnyH_take (i := 4) (v := .bool true) rfl (by kernel_rfl) (by kernel_rfl) (by kernel_rfl) (fun _ _ _ h => h) (Or.inl ⟨by rfl, by intro w' h; go_simp⟩) hHeld ?_
  show wpAnyH _ _ _ _ _ _ _ (Act.put _ (some 28) _) _
  simp only [Act.put, List.setIfInBounds_toArray, List.set_cons_zero, List.set_cons_succ]
  refine wpAnyH_take (i := 5) (v := .bool true) rfl (by kernel_rfl) (by kernel_rfl) (by kernel_rfl) (fun _ _ _ h => h) (Or.inl ⟨by rfl, by intro w hSw; first | rfl | go_simp⟩) hHeld ?_
  show wpAnyH _ _ _ _ _ _ _ (Act.put _ (some 29) _) _
  simp only [Act.put, List.setIfInBounds_toArray, List.set_cons_zero, List.set_cons_succ]
  refine wpAnyH_take (i := 6) (v := .bool true) rfl (by kernel_rfl) (by kernel_rfl) (by kernel_rfl) (fun _ _ _ h => h) (Or.inl ⟨by rfl, fun w _ => by rfl⟩) hHeld ?_
  show wpAnyH _ _ _ _ _ _ _ (Act.put _ (some 30) _) _
  simp only [Act.put, List.setIfInBounds_toArray, List.set_cons_zero, List.set_cons_succ]
  refine wpAnyH_take (i := 7) (v := .int .i64 21) rfl (by kernel_rfl) (by kernel_rfl) (by kernel_rfl) (fun _ _ _ h => h) (Or.inl ⟨by rfl, fun w _ => by rfl⟩) hHeld ?_
  show wpAnyH _ _ _ _ _ _ _ (Act.put _ (some 31) _) _
  simp only [Act.put, List.setIfInBounds_toArray, List.set_cons_zero, List.set_cons_succ]
  refine wpAnyH_take (i := 8) (v := .bool true) rfl (by kernel_rfl) (by kernel_rfl) (by kernel_rfl) (fun _ _ _ h => h) (Or.inl ⟨by rfl, by intro w' h; go_simp⟩) hHeld ?_
  show wpAnyH _ _ _ _ _ _ _ (Act.put _ (some 32) _) _
  simp only [Act.put, List.setIfInBounds_toArray, List.set_cons_zero, List.set_cons_succ]
  refine wpAnyH_take (i := 9) (v := .bool true) rfl (by kernel_rfl) (by kernel_rfl) (by kernel_rfl) (fun _ _ _ h => h) (Or.inl ⟨by rfl, by intro w hSw; first | rfl | go_simp⟩) hHeld ?_
  show wpAnyH _ _ _ _ _ _ _ (Act.put _ (some 33) _) _
  simp only [Act.put, List.setIfInBounds_toArray, List.set_cons_zero, List.set_cons_succ]
  refine wpAnyH_take (i := 10) (v := .bool true) rfl (by kernel_rfl) (by kernel_rfl) (by kernel_rfl) (fun _ _ _ h => h) (Or.inl ⟨by rfl, fun w _ => by rfl⟩) hHeld ?_
  show wpAnyH _ _ _ _ _ _ _ (Act.put _ (some 34) _) _
  simp only [Act.put, List.setIfInBounds_toArray, List.set_cons_zero, List.set_cons_succ]
  refine wpAnyH_take (i := 11) (v := .pointer (some ⟨gs, 1025, none⟩)) rfl (by kernel_rfl) (by kernel_rfl) (by kernel_rfl) (fun _ _ _ h => h) (Or.inl ⟨by rfl, by intro w' h; go_simp⟩) hHeld ?_
  show wpAnyH _ _ _ _ _ _ _ (Act.put _ (some 35) _) _
  simp only [Act.put, List.setIfInBounds_toArray, List.set_cons_zero, List.set_cons_succ]
  refine wpAnyH_take (i := 12) (v := .slice (some ⟨gw, 0, none⟩) 0 0) rfl (by kernel_rfl) (by kernel_rfl) (by kernel_rfl) (fun _ _ _ h => h) (Or.inl ⟨by rfl, by intro w' h; have q := Blk.cell h 1025; rw [rsg_way _ _ _ (signN_length _ _ _)] at q; go_simp⟩) hHeld ?_
  show wpAnyH _ _ _ _ _ _ _ (Act.put _ (some 36) _) _
  simp only [Act.put, List.setIfInBounds_toArray, List.set_cons_zero, List.set_cons_succ]
  refine wpAnyH_take (i := 13) (v := .int .i64 0) rfl (by kernel_rfl) (by kernel_rfl) (by kernel_rfl) (fun _ _ _ h => h) (Or.inl ⟨by rfl, by intro w' h; go_simp⟩) hHeld ?_
  show wpAnyH _ _ _ _ _ _ _ (Act.put _ (some 37) _) _
  simp only [Act.put, List.setIfInBounds_toArray, List.set_cons_zero, List.set_cons_succ]
  refine wpAnyH_take (i := 14) (v := .bool true) rfl (by kernel_rfl) (by kernel_rfl) (by kernel_rfl) (fun _ _ _ h => h) (Or.inl ⟨by rfl, by intro w' h; go_simp⟩) hHeld ?_
  show wpAnyH _ _ _ _ _ _ _ (Act.put _ (some 38) _) _
  simp only [Act.put, List.setIfInBounds_toArray, List.set_cons_zero, List.set_cons_succ]
  refine wpAnyH_take (i := 15) (v := .bool true) rfl (by kernel_rfl) (by kernel_rfl) (by kernel_rfl) (fun _ _ _ h => h) (Or.inl ⟨by rfl, by intro w hSw; first | rfl | go_simp⟩) hHeld ?_
  show wpAnyH _ _ _ _ _ _ _ (Act.put _ (some 39) _) _
  simp only [Act.put, List.setIfInBounds_toArray, List.set_cons_zero, List.set_cons_succ]
  refine wpAnyH_take (i := 16) (v := .bool true) rfl (by kernel_rfl) (by kernel_rfl) (by kernel_rfl) (fun _ _ _ h => h) (Or.inl ⟨by rfl, fun w _ => by rfl⟩) hHeld ?_
  show wpAnyH _ _ _ _ _ _ _ (Act.put _ (some 40) _) _
  simp only [Act.put, List.setIfInBounds_toArray, List.set_cons_zero, List.set_cons_succ]
  refine wpAnyH_take (i := 17) (v := .agg (rsg (signN zs 0 ds) 0 (.slice (some ⟨gw, 0, none⟩) 0 0)).toArray) rfl (by kernel_rfl) (by kernel_rfl) (by kernel_rfl) (fun _ _ _ h => h) (yieldsIf_load_mid rfl 94 (.tmp 3) rfl gs 0 rfl (rsg (signN zs 0 ds) 0 (.slice (some ⟨gw, 0, none⟩) 0 0)) _ (fun w' h => Blk.all h) Tryd.underlying94 rfl (by rw [rsg_length _ _ _ (signN_length _ _ _)]; exact info94)) hHeld ?_
  show wpAnyH _ _ _ _ _ _ _ (Act.put _ (some 41) _) _
  simp only [Act.put, List.setIfInBounds_toArray, List.set_cons_zero, List.set_cons_succ]
  refine wpAnyH_take (i := 18) (v := .pointer (some ⟨g, 0, none⟩)) rfl (by kernel_rfl) (by kernel_rfl) (by kernel_rfl) (fun _ _ _ h => h) (Or.inl ⟨by rfl, fun w _ => by rfl⟩) hHeld ?_
  show wpAnyH _ _ _ _ _ _ _ (Act.put _ (some 42) _) _
  simp only [Act.put, List.setIfInBounds_toArray, List.set_cons_zero, List.set_cons_succ]
  refine wpAnyH_take (i := 20) (v := .agg zdig1) rfl (by kernel_rfl) (by kernel_rfl) (by kernel_rfl) (fun _ _ _ h => h) (Or.inl ⟨by rfl, fun w' h => run_build_op rfl (by simp [Act.eval]) (build1 w')⟩) hHeld ?_
  show wpAnyH _ _ _ _ _ _ _ (Act.put _ (some 44) _) _
  simp only [Act.put, List.setIfInBounds_toArray, List.set_cons_zero, List.set_cons_succ]
  refine wpAnyH_ready (rs := [19]) (by kernel_rfl) (by simp) ?_
  refine AllReadyH.cons rfl (fun K hK => ?_) AllReadyH.nil
  refine step_call rfl 45 #[.tmp 42] #[84] rfl #[.pointer (some ⟨g, 0, none⟩)] (by simp [Act.eval]) (by go_simp) (root_any g zs 0 w.heap.size ((List.replicate 256 false).set 0 true) v X0 RX0) ?_
  rintro e X1 ⟨rfl, hB⟩
  have SX1 : Hid (Blk X1 gs 94 (rsg (signN zs 0 ds) 0 (.slice (some ⟨gw, 0, none⟩) 0 0))) := Lib.hid (SX0.out.below hB SX0.out.lt)
  have RX1 : Hid (RingAt X1 w.heap.size g zs 0 ((List.replicate 256 false).set 0 true) v) := Lib.hid (RX0.out.below hB)
  have YX1 : Hid (Blk X1 gw 36 (w8 (rows (wayN zs 0) 0))) := Lib.hid (YX0.out.below hB YX0.out.lt)
  have BX1 : Hid (Below w.heap.size w X1) := Lib.hid (BX0.out.trans (hB.mono BX0.out.size))
  clear SX0 RX0 YX0 BX0 hB
  refine ⟨_, rfl, hK.out _ _ (SX1.out) (fun hHeld => ?_)⟩
  clear hK K
  show wpAnyH _ _ _ _ _ _ _ (Act.put _ (some 43) _) _
  simp only [Act.put, List.setIfInBounds_toArray, List.set_cons_zero, List.set_cons_succ]
  refine wpAnyH_ready (rs := [21]) (by kernel_rfl) (by simp) ?_
  refine AllReadyH.cons rfl (fun K hK => ?_) AllReadyH.nil
  refine step_call rfl 56 #[.tmp 41, .tmp 43, .const (.int .i64 0), .const (.int .u32 0), .tmp 44] #[94, 36, 3, 38, 36] rfl #[.agg (rsg (signN zs 0 ds) 0 (.slice (some ⟨gw, 0, none⟩) 0 0)).toArray, .agg (w8 (rootN zs 0)).toArray, .int .i64 0, .int .u32 0, .agg zdig1] (by simp [Act.eval]) (by go_simp) (HRT.out X1 (HT.out.below BX1.out HT.out.lt) YX1) ?_
  rintro e X2 ⟨rfl, hB⟩
  have SX2 : Hid (Blk X2 gs 94 (rsg (signN zs 0 ds) 0 (.slice (some ⟨gw, 0, none⟩) 0 0))) := Lib.hid (SX1.out.below hB SX1.out.lt)
  have RX2 : Hid (RingAt X2 w.heap.size g zs 0 ((List.replicate 256 false).set 0 true) v) := Lib.hid (RX1.out.below hB)
  have YX2 : Hid (Blk X2 gw 36 (w8 (rows (wayN zs 0) 0))) := Lib.hid (YX1.out.below hB YX1.out.lt)
  have BX2 : Hid (Below w.heap.size w X2) := Lib.hid (BX1.out.trans (hB.mono BX1.out.size))
  clear SX1 RX1 YX1 BX1 hB
  refine ⟨_, rfl, hK.out _ _ (SX2.out) (fun hHeld => ?_)⟩
  clear hK K
  show wpAnyH _ _ _ _ _ _ _ (Act.put _ (some 45) _) _
  simp only [Act.put, List.setIfInBounds_toArray, List.set_cons_zero, List.set_cons_succ]
  refine wpAnyH_take (i := 22) (v := .bool true) rfl (by kernel_rfl) (by kernel_rfl) (by kernel_rfl) (fun _ _ _ h => h) (Or.inl ⟨by rfl, by intro w hSw; first | rfl | go_simp⟩) hHeld ?_
  show wpAnyH _ _ _ _ _ _ _ (Act.put _ (some 46) _) _
  simp only [Act.put, List.setIfInBounds_toArray, List.set_cons_zero, List.set_cons_succ]
  refine wpAnyH_take (i := 23) (v := .bool true) rfl (by kernel_rfl) (by kernel_rfl) (by kernel_rfl) (fun _ _ _ h => h) (Or.inl ⟨by rfl, fun w _ => by rfl⟩) hHeld ?_
  show wpAnyH _ _ _ _ _ _ _ (Act.put _ (some 0) _) _
  simp only [Act.put, List.setIfInBounds_toArray, List.set_cons_zero]
  refine wpAnyH_done (by kernel_rfl) ?_ _
  clear hHeld
  go_wp2
  go_ret
  exact ⟨rfl, BX2.out⟩
end Go.Proofs.YtkonokjhpddbfaaDoor
