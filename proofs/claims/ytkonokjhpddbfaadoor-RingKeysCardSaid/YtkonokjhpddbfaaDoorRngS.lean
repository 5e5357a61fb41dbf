/-
  The document's Verify (function 57): whether a ring's signature is right; nothing that was there is written.
-/
import Derived.Test.YtkonokjhpddbfaaDoorGI
import Derived.Test.YtkonokjhpddbfaaDoorGE
import Derived.Test.YtkonokjhpddbfaaDoorRngQ
namespace Go.Proofs.YtkonokjhpddbfaaDoor
open Go.RowKit
set_option linter.unusedVariables false

theorem wpList_load_g {ops : Array Oper} {rest : List Oper} {o : Oper} {a : Act} {w : World} {Q : Exit → Act → World → Prop} (hw : Region.wanted o (yielded ops a.tmps) = true) (ty : TypeId) (x : Operand) (ho : o.op = .load ty x)
    (b off : Nat) (hx : a.eval x = .pointer (some ⟨b, off, none⟩)) (cs : List Value) (d : TypeDesc) (hc : w.rangeAt b off cs) (hu : Tryd.prog.underlying ty = some d) (hd : d.isRow = true) (hi : (Tryd.prog.info? ty).map (·.size) = some cs.length)
    (h : wpList Tryd.prog ops Q rest (a.put o.dst (.agg cs.toArray)) w) : wpList Tryd.prog ops Q (o :: rest) a w :=
  wpList_step fun K hK => by
    rw [if_pos hw]
    exact wp_load_mid ty x ho b off hx cs d hc hu hd hi (hK _ _ h)
theorem slice29o (g o : Nat) (W : World) : (Instr.sliceAt 29 (.pointer (some ⟨g, o, none⟩)) none none none).run Tryd.prog W = .ok (.slice (some ⟨g, o, none⟩) 32 32) W := slice32p g o W
set_option maxRecDepth 100000 in
set_option maxHeartbeats 2000000 in
theorem ver_no1 (f r : ByteArray) (S root d : List Nat) (kk key m : Nat) (A : Option Addr) (c : Nat) (tall : Int) (w : World) (HSL : Hid (S.length = 1024)) (hn : (m : Int) ≠ tall) :
    Calls Tryd.prog 57 #[.agg #[.string f, .string r], .agg (rsg S kk (.slice A m c)).toArray, .agg (w8 root).toArray, .int .i64 tall, .int .u32 (key : Int), .agg (w8 d).toArray] w fun e w' => e = .returned (.bool false) ∧ Below w.heap.size w w' := by
  go_enter Tryd.func57, Tryd.ntmps57
  go_upto_region 1 with fail
  have HA : Hid (Blk ((((w.alloc (.cells #[.string f, .string r] 40)).alloc (.cells (rsg S kk (.slice A m c)).toArray 99)).alloc (.cells (w8 root).toArray 29)).alloc (.cells (w8 d).toArray 29)) w.heap.size 40 ([.string f, .string r])) := Lib.hid (by
    have h := (((Blk.new w 40 ([.string f, .string r])).alloc (.cells (rsg S kk (.slice A m c)).toArray 99)).alloc (.cells (w8 root).toArray 29)).alloc (.cells (w8 d).toArray 29)
    exact h)
  have HS : Hid (Blk ((((w.alloc (.cells #[.string f, .string r] 40)).alloc (.cells (rsg S kk (.slice A m c)).toArray 99)).alloc (.cells (w8 root).toArray 29)).alloc (.cells (w8 d).toArray 29)) (w.heap.size + 1) 99 (rsg S kk (.slice A m c))) := Lib.hid (by
    have h := ((Blk.new (w.alloc (.cells #[.string f, .string r] 40)) 99 (rsg S kk (.slice A m c))).alloc (.cells (w8 root).toArray 29)).alloc (.cells (w8 d).toArray 29)
    rw [World.size_alloc] at h
    exact h)
  have HR : Hid (Blk ((((w.alloc (.cells #[.string f, .string r] 40)).alloc (.cells (rsg S kk (.slice A m c)).toArray 99)).alloc (.cells (w8 root).toArray 29)).alloc (.cells (w8 d).toArray 29)) (w.heap.size + 1 + 1) 29 (w8 root)) := Lib.hid (by
    have h := (Blk.new ((w.alloc (.cells #[.string f, .string r] 40)).alloc (.cells (rsg S kk (.slice A m c)).toArray 99)) 29 (w8 root)).alloc (.cells (w8 d).toArray 29)
    rw [World.size_alloc, World.size_alloc] at h
    exact h)
  have HD : Hid (Blk ((((w.alloc (.cells #[.string f, .string r] 40)).alloc (.cells (rsg S kk (.slice A m c)).toArray 99)).alloc (.cells (w8 root).toArray 29)).alloc (.cells (w8 d).toArray 29)) (w.heap.size + 1 + 1 + 1) 29 (w8 d)) := Lib.hid (by
    have h := Blk.new (((w.alloc (.cells #[.string f, .string r] 40)).alloc (.cells (rsg S kk (.slice A m c)).toArray 99)).alloc (.cells (w8 root).toArray 29)) 29 (w8 d)
    rw [World.size_alloc, World.size_alloc, World.size_alloc] at h
    exact h)
  have HW : Hid (Below w.heap.size w ((((w.alloc (.cells #[.string f, .string r] 40)).alloc (.cells (rsg S kk (.slice A m c)).toArray 99)).alloc (.cells (w8 root).toArray 29)).alloc (.cells (w8 d).toArray 29))) := Lib.hid (((((Below.refl _ _).alloc (Nat.le_refl _) _).alloc (by simp) _).alloc (by simp; omega) _).alloc (by simp; omega) _)
  generalize ((((w.alloc (.cells #[.string f, .string r] 40)).alloc (.cells (rsg S kk (.slice A m c)).toArray 99)).alloc (.cells (w8 root).toArray 29)).alloc (.cells (w8 d).toArray 29)) = V at HA HS HR HD HW ⊢
  have c1 : V.cell? ⟨w.heap.size + 1, 1025, none⟩ = some (.slice A m c) := by rw [HS.out.cell]; exact rsg_way _ _ _ HSL.out
  by_cases h0 : tall < 0
  · go_wp2
    go_ret
    exact ⟨rfl, HW.out⟩
  · go_wp2
    go_ret
    exact ⟨rfl, HW.out⟩

set_option maxRecDepth 100000 in
set_option maxHeartbeats 2000000 in
theorem ver_no2 (f r : ByteArray) (S root d : List Nat) (kk key m : Nat) (A : Option Addr) (c : Nat) (w : World) (HSL : Hid (S.length = 1024)) (hn : key ≠ kk) (h1 : key < 4294967296) (h2 : kk < 4294967296) :
    Calls Tryd.prog 57 #[.agg #[.string f, .string r], .agg (rsg S kk (.slice A m c)).toArray, .agg (w8 root).toArray, .int .i64 (m : Int), .int .u32 (key : Int), .agg (w8 d).toArray] w fun e w' => e = .returned (.bool false) ∧ Below w.heap.size w w' := by
  have hn2 : (kk : Int) ≠ (key : Int) := by omega
  have m3 : ¬ (m : Int) < 0 := by omega
  have hn3 : ¬ kk = key := fun e => hn e.symm
  have m2 : (0 : Int) ≤ (m : Int) := by omega
  go_enter Tryd.func57, Tryd.ntmps57
  go_upto_region 1 with fail
  have HA : Hid (Blk ((((w.alloc (.cells #[.string f, .string r] 40)).alloc (.cells (rsg S kk (.slice A m c)).toArray 99)).alloc (.cells (w8 root).toArray 29)).alloc (.cells (w8 d).toArray 29)) w.heap.size 40 ([.string f, .string r])) := Lib.hid (by
    have h := (((Blk.new w 40 ([.string f, .string r])).alloc (.cells (rsg S kk (.slice A m c)).toArray 99)).alloc (.cells (w8 root).toArray 29)).alloc (.cells (w8 d).toArray 29)
    exact h)
  have HS : Hid (Blk ((((w.alloc (.cells #[.string f, .string r] 40)).alloc (.cells (rsg S kk (.slice A m c)).toArray 99)).alloc (.cells (w8 root).toArray 29)).alloc (.cells (w8 d).toArray 29)) (w.heap.size + 1) 99 (rsg S kk (.slice A m c))) := Lib.hid (by
    have h := ((Blk.new (w.alloc (.cells #[.string f, .string r] 40)) 99 (rsg S kk (.slice A m c))).alloc (.cells (w8 root).toArray 29)).alloc (.cells (w8 d).toArray 29)
    rw [World.size_alloc] at h
    exact h)
  have HR : Hid (Blk ((((w.alloc (.cells #[.string f, .string r] 40)).alloc (.cells (rsg S kk (.slice A m c)).toArray 99)).alloc (.cells (w8 root).toArray 29)).alloc (.cells (w8 d).toArray 29)) (w.heap.size + 1 + 1) 29 (w8 root)) := Lib.hid (by
    have h := (Blk.new ((w.alloc (.cells #[.string f, .string r] 40)).alloc (.cells (rsg S kk (.slice A m c)).toArray 99)) 29 (w8 root)).alloc (.cells (w8 d).toArray 29)
    rw [World.size_alloc, World.size_alloc] at h
    exact h)
  have HD : Hid (Blk ((((w.alloc (.cells #[.string f, .string r] 40)).alloc (.cells (rsg S kk (.slice A m c)).toArray 99)).alloc (.cells (w8 root).toArray 29)).alloc (.cells (w8 d).toArray 29)) (w.heap.size + 1 + 1 + 1) 29 (w8 d)) := Lib.hid (by
    have h := Blk.new (((w.alloc (.cells #[.string f, .string r] 40)).alloc (.cells (rsg S kk (.slice A m c)).toArray 99)).alloc (.cells (w8 root).toArray 29)) 29 (w8 d)
    rw [World.size_alloc, World.size_alloc, World.size_alloc] at h
    exact h)
  have HW : Hid (Below w.heap.size w ((((w.alloc (.cells #[.string f, .string r] 40)).alloc (.cells (rsg S kk (.slice A m c)).toArray 99)).alloc (.cells (w8 root).toArray 29)).alloc (.cells (w8 d).toArray 29))) := Lib.hid (((((Below.refl _ _).alloc (Nat.le_refl _) _).alloc (by simp) _).alloc (by simp; omega) _).alloc (by simp; omega) _)
  generalize ((((w.alloc (.cells #[.string f, .string r] 40)).alloc (.cells (rsg S kk (.slice A m c)).toArray 99)).alloc (.cells (w8 root).toArray 29)).alloc (.cells (w8 d).toArray 29)) = V at HA HS HR HD HW ⊢
  have c1 : V.cell? ⟨w.heap.size + 1, 1025, none⟩ = some (.slice A m c) := by rw [HS.out.cell]; exact rsg_way _ _ _ HSL.out
  have c2 : V.cell? ⟨w.heap.size + 1, 1024, none⟩ = some (.int .u32 (kk : Int)) := by rw [HS.out.cell]; exact rsg_key _ _ _ HSL.out
  go_wp2
  go_ret
  exact ⟨rfl, HW.out⟩

set_option maxRecDepth 400000 in
set_option maxHeartbeats 4000000 in
theorem ver_way (f r : ByteArray) (S root d : List Nat) (key m : Nat) (A : Option Addr) (c : Nat) (q : Nat → List Nat) (w : World) (HX : Hid (Texts f r)) (HSL : Hid (S.length = 1024)) (HSP : Hid (∀ x ∈ S, x < 256)) (HRL : Hid (root.length = 32)) (HDL : Hid (d.length = 32)) (HDP : Hid (∀ x ∈ d, x < 256))
    (HF : Hid (∀ a, (q a).length = 32)) (HFP : Hid (∀ a, ∀ x ∈ q a, x < 256)) (HY : Hid (WayR w (.slice A m c) q m)) (h1 : key < 4294967296) (hm : m ≤ 1000) :
    Calls Tryd.prog 57 #[.agg #[.string f, .string r], .agg (rsg S key (.slice A m c)).toArray, .agg (w8 root).toArray, .int .i64 (m : Int), .int .u32 (key : Int), .agg (w8 d).toArray] w fun e w' => e = .returned (.bool (rightN S key q m root m key d)) ∧ Below w.heap.size w w' := by
  have m1 : (m : Int) ≤ 1000 := by omega
  have m2 : (0 : Int) ≤ (m : Int) := by omega
  have HI1 : Hid ((Tryd.prog.info? 51).map (·.size) = some (w8 S).length) := Lib.hid (by rw [w8_length, HSL.out]; exact info51)
  have HI2 : Hid ((Tryd.prog.info? 29).map (·.size) = some (w8 d).length) := Lib.hid (by rw [w8_length, HDL.out]; exact info29)
  have HI3 : Hid ((Tryd.prog.info? 29).map (·.size) = some (w8 root).length) := Lib.hid (by rw [w8_length, HRL.out]; exact info29)
  go_enter Tryd.func57, Tryd.ntmps57
  go_upto_region 1 with fail
  have HA : Hid (Blk ((((w.alloc (.cells #[.string f, .string r] 40)).alloc (.cells (rsg S key (.slice A m c)).toArray 99)).alloc (.cells (w8 root).toArray 29)).alloc (.cells (w8 d).toArray 29)) w.heap.size 40 ([.string f, .string r])) := Lib.hid (by
    have h := (((Blk.new w 40 ([.string f, .string r])).alloc (.cells (rsg S key (.slice A m c)).toArray 99)).alloc (.cells (w8 root).toArray 29)).alloc (.cells (w8 d).toArray 29)
    exact h)
  have HS : Hid (Blk ((((w.alloc (.cells #[.string f, .string r] 40)).alloc (.cells (rsg S key (.slice A m c)).toArray 99)).alloc (.cells (w8 root).toArray 29)).alloc (.cells (w8 d).toArray 29)) (w.heap.size + 1) 99 (rsg S key (.slice A m c))) := Lib.hid (by
    have h := ((Blk.new (w.alloc (.cells #[.string f, .string r] 40)) 99 (rsg S key (.slice A m c))).alloc (.cells (w8 root).toArray 29)).alloc (.cells (w8 d).toArray 29)
    rw [World.size_alloc] at h
    exact h)
  have HR : Hid (Blk ((((w.alloc (.cells #[.string f, .string r] 40)).alloc (.cells (rsg S key (.slice A m c)).toArray 99)).alloc (.cells (w8 root).toArray 29)).alloc (.cells (w8 d).toArray 29)) (w.heap.size + 1 + 1) 29 (w8 root)) := Lib.hid (by
    have h := (Blk.new ((w.alloc (.cells #[.string f, .string r] 40)).alloc (.cells (rsg S key (.slice A m c)).toArray 99)) 29 (w8 root)).alloc (.cells (w8 d).toArray 29)
    rw [World.size_alloc, World.size_alloc] at h
    exact h)
  have HD : Hid (Blk ((((w.alloc (.cells #[.string f, .string r] 40)).alloc (.cells (rsg S key (.slice A m c)).toArray 99)).alloc (.cells (w8 root).toArray 29)).alloc (.cells (w8 d).toArray 29)) (w.heap.size + 1 + 1 + 1) 29 (w8 d)) := Lib.hid (by
    have h := Blk.new (((w.alloc (.cells #[.string f, .string r] 40)).alloc (.cells (rsg S key (.slice A m c)).toArray 99)).alloc (.cells (w8 root).toArray 29)) 29 (w8 d)
    rw [World.size_alloc, World.size_alloc, World.size_alloc] at h
    exact h)
  have HW : Hid (Below w.heap.size w ((((w.alloc (.cells #[.string f, .string r] 40)).alloc (.cells (rsg S key (.slice A m c)).toArray 99)).alloc (.cells (w8 root).toArray 29)).alloc (.cells (w8 d).toArray 29))) := Lib.hid (((((Below.refl _ _).alloc (Nat.le_refl _) _).alloc (by simp) _).alloc (by simp; omega) _).alloc (by simp; omega) _)
  generalize ((((w.alloc (.cells #[.string f, .string r] 40)).alloc (.cells (rsg S key (.slice A m c)).toArray 99)).alloc (.cells (w8 root).toArray 29)).alloc (.cells (w8 d).toArray 29)) = V at HA HS HR HD HW ⊢
  have hv2 : w.heap.size + 1 + 1 + 1 < V.heap.size := HD.out.lt
  have c1 : V.cell? ⟨w.heap.size + 1, 1025, none⟩ = some (.slice A m c) := by rw [HS.out.cell]; exact rsg_way _ _ _ HSL.out
  have c2 : V.cell? ⟨w.heap.size + 1, 1024, none⟩ = some (.int .u32 (key : Int)) := by rw [HS.out.cell]; exact rsg_key _ _ _ HSL.out
  have HRT := Lib.hid HA.out.all
  have HRG := Lib.hid (rsg_sig HS.out HSL.out)
  have HRD := Lib.hid HD.out.all
  go_wp2_with (first | (refine wpList_load_mid rfl 40 (.tmp 6) rfl w.heap.size 0 rfl [.string f, .string r] _ HRT.out Tryd.underlying40 rfl info40 ?_) | (refine wpList_load_mid rfl 51 (.tmp 34) rfl (w.heap.size + 1) 0 rfl (w8 S) _ HRG.out Tryd.underlying51 rfl HI1.out ?_) | (refine wpList_load_mid rfl 29 (.tmp 11) rfl (w.heap.size + 1 + 1 + 1) 0 rfl (w8 d) _ HRD.out Tryd.underlying29 rfl HI2.out ?_))
  clear HRT HRG HRD c1 c2
  refine (rfrom_any f r S d V HX HSL HSP HDL HDP).mono ?_
  rintro e V2 ⟨rfl, hB⟩
  have HA2 := Lib.hid (HA.out.below hB HA.out.lt)
  have HS2 := Lib.hid (HS.out.below hB HS.out.lt)
  have HR2 := Lib.hid (HR.out.below hB HR.out.lt)
  have HW2 := Lib.hid (HW.out.trans (hB.mono HW.out.size))
  have hv3 : w.heap.size + 1 + 1 < V2.heap.size := HR2.out.lt
  clear hB HA HS HR HD HW
  have HFL : Hid ((fromN S d).length = 32) := Lib.hid (sha_length _)
  have HL0 := Lib.hid (heap_alloc_last V2 (.cells zsum 29))
  have HJ0 : Hid ((Tryd.prog.info? 29).map (·.size) = some (w8 (fromN S d)).toArray.size) := Lib.hid (by rw [List.size_toArray, w8_length, HFL.out]; exact info29)
  have HJ1 : Hid (zsum.size = (w8 (fromN S d)).toArray.size) := Lib.hid (Eq.trans (b := 32) rfl (by rw [List.size_toArray, w8_length, HFL.out]))
  have HJ2 := Lib.hid (all_oneCell_toArray (w8_one (fromN S d)))
  go_upto_region 5 with (first | (refine wpList_store_row rfl 29 (.tmp 14) (.tmp 37) rfl V2.heap.size (w8 (fromN S d)).toArray rfl rfl 29 _ HL0.out HJ0.out HJ1.out HJ2.out ?_; rw [World.setRow_alloc_new]))
  have hB : Below V2.heap.size V2 (V2.alloc (.cells (w8 (fromN S d)).toArray 29)) := (Below.refl _ _).alloc (Nat.le_refl _) _
  have HA3 := Lib.hid (HA2.out.below hB HA2.out.lt)
  have HS3 := Lib.hid (HS2.out.below hB HS2.out.lt)
  have HR3 := Lib.hid (HR2.out.below hB HR2.out.lt)
  have HT3 : Hid (Blk (V2.alloc (.cells (w8 (fromN S d)).toArray 29)) V2.heap.size 29 (w8 (climbN (fromN S d) q key 0))) := Lib.hid (Blk.new _ _ _)
  have HW3 := Lib.hid (HW2.out.trans (hB.mono HW2.out.size))
  clear hB HA2 HS2 HR2 HW2 HL0 HJ0 HJ1 HJ2
  generalize V2.alloc (.cells (w8 (fromN S d)).toArray 29) = V3 at HA3 HS3 HR3 HT3 HW3 ⊢
  generalize V2.heap.size = gt at hv3 HT3 ⊢
  go_wp2_with fail
  go_loopw [15, 13] (fun i a wr => ∃ (k : Nat), k ≤ m ∧ i = .int .i64 k ∧ a = .int .u64 ((key / 2 ^ k : Nat) : Int) ∧ Hid (Blk wr w.heap.size 40 [.string f, .string r]) ∧ Hid (Blk wr (w.heap.size + 1) 99 (rsg S key (.slice A m c))) ∧ Hid (Blk wr (w.heap.size + 1 + 1) 29 (w8 root)) ∧ Hid (Blk wr gt 29 (w8 (climbN (fromN S d) q key k))) ∧ Hid (Below w.heap.size w wr)) (fun i _ _ => m - (intOf i).toNat)
  case atStart => exact ⟨0, Nat.zero_le _, rfl, by simp, HA3, HS3, HR3, HT3, HW3⟩
  case round =>
    clear HA3 HS3 HR3 HT3 HW3
    obtain ⟨k, hk, rfl, rfl, Ar, Sr, Rr, Tr, Br⟩ := hrel
    obtain ⟨y, hy⟩ : ∃ y, key / 2 ^ k = y := ⟨_, rfl⟩
    have hyl : y ≤ key := by rw [← hy]; exact Nat.div_le_self _ _
    have hy9 : (y : Int) < 4294967296 := by omega
    have hdiv : key / 2 ^ (k + 1) = y / 2 := by rw [Nat.pow_succ, ← Nat.div_div_eq_div_mul, hy]
    rw [hy]
    have d1025 : wr.cell? ⟨w.heap.size + 1, 1025, none⟩ = some (.slice A m c) := by rw [Sr.out.cell]; exact rsg_way _ _ _ HSL.out
    have ydiv : (y : Int).tdiv 2 = ((y / 2 : Nat) : Int) := by rw [Int.tdiv_eq_ediv_of_nonneg (by omega)]; omega
    have ymod : (y : Int).tmod 2 = ((y % 2 : Nat) : Int) := by rw [Int.tmod_eq_emod_of_nonneg (by omega)]; omega
    by_cases hlt : k < m
    · have k1 : (k : Int) < (m : Int) := by omega
      have k2 : (k : Int) ≤ 1000 := by omega
      obtain ⟨A', c', hA', h2⟩ := HY.out
      injection hA' with hA1 hA2 hA3
      subst hA1
      subst hA3
      obtain ⟨gw, o, rfl, hgw, hcell⟩ : ∃ g o, A = some ⟨g, o, none⟩ ∧ g < w.heap.size ∧ ∀ i, i < m → w.rangeAt g (o + i * 32) (w8 (q i)) := by
        rcases h2 with h2 | h2
        · omega
        · exact h2
      have hcell1 := hcell k hlt
      have Fr : Hid (∀ j u, (w8 (q k))[j]? = some u → wr.cell? ⟨gw, o + k * 32 + j, none⟩ = some u) := Lib.hid fun j u hu => (Br.out.cell (p := ⟨gw, o + k * 32 + j, none⟩) hgw).trans (hcell1 j u hu)
      clear hcell hcell1 h2
      have HC1 := Lib.hid (climbN_length (fromN S d) q key HFL.out k)
      have HC2 := Lib.hid (climbN_lt (fromN S d) q key (sha_lt _) k)
      have HF1 := Lib.hid (HF.out k)
      have HF2 := Lib.hid (HFP.out k)
      have hs1 := slice29o gt 0
      have hs2 := slice29o gw (o + k * 32)
      by_cases hpar0 : y % 2 = 0
      · have hpar : key / 2 ^ k % 2 = 0 := by rw [hy]; exact hpar0
        have ym0 : (y : Int).tmod 2 = 0 := by rw [ymod, hpar0]; rfl
        clear ymod
        have HRF1 : Hid (∀ (X : World) (g : Nat), Blk X gt 29 (w8 (climbN (fromN S d) q key k)) → (∀ j u, (w8 (q k))[j]? = some u → X.cell? ⟨gw, o + k * 32 + j, none⟩ = some u) → Blk X g 30 [.slice (some ⟨gt, 0, none⟩) 32 32, .slice (some ⟨gw, o + k * 32, none⟩) 32 32] → Calls Tryd.prog 70 #[.agg #[.string f, .string r], .int .u8 3, .slice (some ⟨g, 0, none⟩) 2 2] X fun e w' => e = .returned (.agg (w8 (joinN (climbN (fromN S d) q key k) (q k))).toArray) ∧ Below X.heap.size X w') := Lib.hid fun X g h1 h2 h3 => by
          have hp := Parts.two' (b := X.heap.size) (x1 := (climbN (fromN S d) q key k)) (x2 := (q k)) h3 HC1.out.symm HF1.out.symm (by have := h3.lt; omega) (by omega) (by omega) (Src.blk (rest := []) (by rw [List.append_nil]; exact h1) (by have := h1.lt; omega) HC2.out 32 (by rw [HC1.out]; omega)) ⟨by rw [HF1.out]; omega, .inr ⟨gw, o + k * 32, rfl, World.block_lt_of_cell? _ _ (h2 0 _ (w8_get (q k) 0 (by rw [HF1.out]; omega))), by have h9 := World.block_lt_of_cell? _ _ (h2 0 _ (w8_get (q k) 0 (by rw [HF1.out]; omega))); have h10 : gw < X.heap.size := h9; omega, fun i hi => h2 i _ (w8_get (q k) i hi)⟩, HF2.out⟩
          exact reffor_any f r 3 2 2 _ _ [(climbN (fromN S d) q key k), (q k)] X HX (by omega) (Lib.hid hp) (Lib.hid rfl) (by omega) (Lib.hid (by simp [HC1.out, HF1.out])) (Lib.hid (by
            intro p hp x hx
            simp only [List.mem_cons, List.not_mem_nil, or_false] at hp
            rcases hp with rfl | rfl
            · exact HC2.out x hx
            · exact HF2.out x hx))
        have HJ1 : Hid ((Tryd.prog.info? 29).map (·.size) = some (w8 (joinN (climbN (fromN S d) q key k) (q k))).length) := Lib.hid (by rw [w8_length, joinN_length]; exact info29)
        have HJ2 : Hid ((w8 (climbN (fromN S d) q key k)).length = (w8 (joinN (climbN (fromN S d) q key k) (q k))).length) := Lib.hid (by rw [w8_length, w8_length, joinN_length, HC1.out])
        go_upto_region 9 with fail
        have hBz : Below wr.heap.size wr wr.drew := below_drewN (Below.refl _ _) 1
        have AX0 : Hid (Blk wr.drew w.heap.size 40 [.string f, .string r]) := Lib.hid (Ar.out.below hBz Ar.out.lt)
        have SX0 : Hid (Blk wr.drew (w.heap.size + 1) 99 (rsg S key (.slice (some ⟨gw, o, none⟩) m c))) := Lib.hid (Sr.out.below hBz Sr.out.lt)
        have RX0 : Hid (Blk wr.drew (w.heap.size + 1 + 1) 29 (w8 root)) := Lib.hid (Rr.out.below hBz Rr.out.lt)
        have TX0 : Hid (Blk wr.drew gt 29 (w8 (climbN (fromN S d) q key k))) := Lib.hid (Tr.out.below hBz Tr.out.lt)
        have FX0 : Hid ((∀ j u, (w8 (q k))[j]? = some u → wr.drew.cell? ⟨gw, o + k * 32 + j, none⟩ = some u)) := Lib.hid (fun j u hu => (hBz.cell (p := ⟨gw, o + k * 32 + j, none⟩) (World.block_lt_of_cell? _ _ (Fr.out j u hu))).trans (Fr.out j u hu))
        have BX0 : Hid (Below w.heap.size w wr.drew) := Lib.hid (Br.out.trans (hBz.mono Br.out.size))
        clear hBz
        refine wp_region_held_drew (S := fun w' => Blk w' w.heap.size 40 [.string f, .string r] ∧ Blk w' (w.heap.size + 1) 99 (rsg S key (.slice (some ⟨gw, o, none⟩) m c))) (by kernel_rfl) (⟨AX0.out, SX0.out⟩) (fun hHeld => ?_)
        generalize wr.drew = X0 at hHeld AX0 SX0 RX0 TX0 FX0 BX0 ⊢
        refine wpAnyH_take (i := 0) (v := .agg #[.string f, .string r]) rfl (by kernel_rfl) (by kernel_rfl) (by kernel_rfl) (fun _ _ _ h => h) (yieldsIf_load_mid (by rfl) 40 (.tmp 6) rfl w.heap.size 0 rfl [.string f, .string r] _ (fun w' h => h.1.all) Tryd.underlying40 rfl info40) hHeld ?_
        show wpAnyH _ _ _ _ _ _ _ (Act.put _ (some 48) _) _
        simp only [Act.put, List.setIfInBounds_toArray, List.set_cons_zero, List.set_cons_succ]
        refine wpAnyH_take (i := 1) (v := .slice (some ⟨gt, 0, none⟩) 32 32) rfl (by kernel_rfl) (by kernel_rfl) (by kernel_rfl) (fun _ _ _ h => h) (Or.inl ⟨by rfl, by intro w' h; go_simp⟩) hHeld ?_
        show wpAnyH _ _ _ _ _ _ _ (Act.put _ (some 49) _) _
        simp only [Act.put, List.setIfInBounds_toArray, List.set_cons_zero, List.set_cons_succ]
        refine wpAnyH_take (i := 2) (v := .pointer (some ⟨w.heap.size + 1, 1025, none⟩)) rfl (by kernel_rfl) (by kernel_rfl) (by kernel_rfl) (fun _ _ _ h => h) (Or.inl ⟨by rfl, by intro w' h; go_simp⟩) hHeld ?_
        show wpAnyH _ _ _ _ _ _ _ (Act.put _ (some 50) _) _
        simp only [Act.put, List.setIfInBounds_toArray, List.set_cons_zero, List.set_cons_succ]
        refine wpAnyH_take (i := 3) (v := .slice (some ⟨gw, o, none⟩) m c) rfl (by kernel_rfl) (by kernel_rfl) (by kernel_rfl) (fun _ _ _ h => h) (Or.inl ⟨by rfl, by intro w' h; have q9 := h.2.cell 1025; rw [rsg_way _ _ _ HSL.out] at q9; go_simp⟩) hHeld ?_
        show wpAnyH _ _ _ _ _ _ _ (Act.put _ (some 51) _) _
        simp only [Act.put, List.setIfInBounds_toArray, List.set_cons_zero, List.set_cons_succ]
        refine wpAnyH_take (i := 4) (v := .int .i64 (k : Int)) rfl (by kernel_rfl) (by kernel_rfl) (by kernel_rfl) (fun _ _ _ h => h) (Or.inl ⟨by rfl, fun w _ => by rfl⟩) hHeld ?_
        show wpAnyH _ _ _ _ _ _ _ (Act.put _ (some 52) _) _
        simp only [Act.put, List.setIfInBounds_toArray, List.set_cons_zero, List.set_cons_succ]
        refine wpAnyH_take (i := 5) (v := .pointer (some ⟨gw, o + k * 32, none⟩)) rfl (by kernel_rfl) (by kernel_rfl) (by kernel_rfl) (fun _ _ _ h => h) (Or.inl ⟨by rfl, by intro w' h; go_simp⟩) hHeld ?_
        show wpAnyH _ _ _ _ _ _ _ (Act.put _ (some 53) _) _
        simp only [Act.put, List.setIfInBounds_toArray, List.set_cons_zero, List.set_cons_succ]
        refine wpAnyH_take (i := 6) (v := .slice (some ⟨gw, o + k * 32, none⟩) 32 32) rfl (by kernel_rfl) (by kernel_rfl) (by kernel_rfl) (fun _ _ _ h => h) (Or.inl ⟨by rfl, by intro w' h; go_simp⟩) hHeld ?_
        show wpAnyH _ _ _ _ _ _ _ (Act.put _ (some 54) _) _
        simp only [Act.put, List.setIfInBounds_toArray, List.set_cons_zero, List.set_cons_succ]
        refine wpAnyH_ready (rs := [7]) (by kernel_rfl) (by simp) ?_
        refine AllReadyH.cons rfl (fun K hK => ?_) AllReadyH.nil
        refine Kt.step_lay rfl 23 2 #[(0, .tmp 49), (1, .tmp 54)] rfl #[(0, .slice (some ⟨gt, 0, none⟩) 32 32), (1, .slice (some ⟨gw, o + k * 32, none⟩) 32 32)] (by simp [Act.eval]) (.slice (some ⟨X0.heap.size, 0, none⟩) 2 2) (X0.alloc (.cells #[.slice (some ⟨gt, 0, none⟩) 32 32, .slice (some ⟨gw, o + k * 32, none⟩) 32 32] 30)) (by kernel_rfl) ?_
        have hB : Below X0.heap.size X0 (X0.alloc (.cells #[.slice (some ⟨gt, 0, none⟩) 32 32, .slice (some ⟨gw, o + k * 32, none⟩) 32 32] 30)) := (Below.refl _ _).alloc (Nat.le_refl _) _
        have hL := Blk.new X0 30 [.slice (some ⟨gt, 0, none⟩) 32 32, .slice (some ⟨gw, o + k * 32, none⟩) 32 32]
        generalize X0.alloc (.cells #[.slice (some ⟨gt, 0, none⟩) 32 32, .slice (some ⟨gw, o + k * 32, none⟩) 32 32] 30) = X1 at hB hL ⊢
        generalize X0.heap.size = gl at hL ⊢
        have AX1 : Hid (Blk X1 w.heap.size 40 [.string f, .string r]) := Lib.hid (AX0.out.below hB AX0.out.lt)
        have SX1 : Hid (Blk X1 (w.heap.size + 1) 99 (rsg S key (.slice (some ⟨gw, o, none⟩) m c))) := Lib.hid (SX0.out.below hB SX0.out.lt)
        have RX1 : Hid (Blk X1 (w.heap.size + 1 + 1) 29 (w8 root)) := Lib.hid (RX0.out.below hB RX0.out.lt)
        have TX1 : Hid (Blk X1 gt 29 (w8 (climbN (fromN S d) q key k))) := Lib.hid (TX0.out.below hB TX0.out.lt)
        have FX1 : Hid ((∀ j u, (w8 (q k))[j]? = some u → X1.cell? ⟨gw, o + k * 32 + j, none⟩ = some u)) := Lib.hid (fun j u hu => (hB.cell (p := ⟨gw, o + k * 32 + j, none⟩) (World.block_lt_of_cell? _ _ (FX0.out j u hu))).trans (FX0.out j u hu))
        have BX1 : Hid (Below w.heap.size w X1) := Lib.hid (BX0.out.trans (hB.mono BX0.out.size))
        have LX1 : Hid (Blk X1 gl 30 [.slice (some ⟨gt, 0, none⟩) 32 32, .slice (some ⟨gw, o + k * 32, none⟩) 32 32]) := Lib.hid (hL)
        clear AX0 SX0 RX0 TX0 FX0 BX0 hB hL
        refine hK.out _ _ (⟨AX1.out, SX1.out⟩) (fun hHeld => ?_)
        clear hK K
        show wpAnyH _ _ _ _ _ _ _ (Act.put _ (some 55) _) _
        simp only [Act.put, List.setIfInBounds_toArray, List.set_cons_zero, List.set_cons_succ]
        refine wpAnyH_ready (rs := [8]) (by kernel_rfl) (by simp) ?_
        refine AllReadyH.cons rfl (fun K hK => ?_) AllReadyH.nil
        refine step_call rfl 70 #[.tmp 48, .const (.int .u8 3), .tmp 55] #[40, 5, 23] rfl #[.agg #[.string f, .string r], .int .u8 3, .slice (some ⟨gl, 0, none⟩) 2 2] (by simp [Act.eval]) (by go_simp) (HRF1.out X1 gl TX1.out FX1.out LX1.out) ?_
        rintro e X2 ⟨rfl, hB⟩
        have AX2 : Hid (Blk X2 w.heap.size 40 [.string f, .string r]) := Lib.hid (AX1.out.below hB AX1.out.lt)
        have SX2 : Hid (Blk X2 (w.heap.size + 1) 99 (rsg S key (.slice (some ⟨gw, o, none⟩) m c))) := Lib.hid (SX1.out.below hB SX1.out.lt)
        have RX2 : Hid (Blk X2 (w.heap.size + 1 + 1) 29 (w8 root)) := Lib.hid (RX1.out.below hB RX1.out.lt)
        have TX2 : Hid (Blk X2 gt 29 (w8 (climbN (fromN S d) q key k))) := Lib.hid (TX1.out.below hB TX1.out.lt)
        have FX2 : Hid ((∀ j u, (w8 (q k))[j]? = some u → X2.cell? ⟨gw, o + k * 32 + j, none⟩ = some u)) := Lib.hid (fun j u hu => (hB.cell (p := ⟨gw, o + k * 32 + j, none⟩) (World.block_lt_of_cell? _ _ (FX1.out j u hu))).trans (FX1.out j u hu))
        have BX2 : Hid (Below w.heap.size w X2) := Lib.hid (BX1.out.trans (hB.mono BX1.out.size))
        have LX2 : Hid (Blk X2 gl 30 [.slice (some ⟨gt, 0, none⟩) 32 32, .slice (some ⟨gw, o + k * 32, none⟩) 32 32]) := Lib.hid (LX1.out.below hB LX1.out.lt)
        clear AX1 SX1 RX1 TX1 FX1 BX1 LX1 hB
        refine ⟨_, rfl, hK.out _ _ (⟨AX2.out, SX2.out⟩) (fun hHeld => ?_)⟩
        clear hK K
        show wpAnyH _ _ _ _ _ _ _ (Act.put _ (some 56) _) _
        simp only [Act.put, List.setIfInBounds_toArray, List.set_cons_zero, List.set_cons_succ]
        refine wpAnyH_ready (rs := [9]) (by kernel_rfl) (by simp) ?_
        refine AllReadyH.cons rfl (fun K hK => ?_) AllReadyH.nil
        refine Kt.step_store rfl 29 (.tmp 14) (.tmp 56) rfl gt (w8 (joinN (climbN (fromN S d) q key k) (q k))) rfl rfl 29 _ TX2.out HJ1.out HJ2.out (all_oneCell_toArray (w8_one _)) ?_
        intro X3 hZ hO
        have AE := Lib.hid (AX2.out.grown hO (fun e => by injection e with e; omega))
        have SE := Lib.hid (SX2.out.grown hO (fun e => by injection e with e; omega))
        have RE := Lib.hid (RX2.out.grown hO (fun e => by injection e with e; omega))
        have TE := Lib.hid hZ
        have BE := Lib.hid (BX2.out.trans (only_up hO (by omega) BX2.out.size))
        clear hZ hO AX2 SX2 RX2 TX2 FX2 BX2 LX2
        refine hK.out _ _ (⟨AE.out, SE.out⟩) (fun hHeld => ?_)
        clear hK K
        show wpAnyH _ _ _ _ _ _ _ (Act.put _ none _) _
        simp only [Act.put]
        refine wpAnyH_done (by kernel_rfl) ?_ _
        clear hHeld
        have TE2 : Hid (Blk X3 gt 29 (w8 (climbN (fromN S d) q key (k + 1)))) := Lib.hid (by unfold climbN; rw [if_pos hpar]; exact TE.out)
        clear TE
        go_wp2
        go_roundw
        case rel => exact ⟨k + 1, by omega, by go_num, by rw [hdiv]; rfl, AE, SE, RE, TE2, BE⟩
        case measure => simp [intOf]; omega
      · have hpar : ¬ key / 2 ^ k % 2 = 0 := by rw [hy]; exact hpar0
        have ym0 : (y : Int).tmod 2 = 1 := by rw [ymod, show y % 2 = 1 by omega]; rfl
        clear ymod
        have HRF2 : Hid (∀ (X : World) (g : Nat), Blk X gt 29 (w8 (climbN (fromN S d) q key k)) → (∀ j u, (w8 (q k))[j]? = some u → X.cell? ⟨gw, o + k * 32 + j, none⟩ = some u) → Blk X g 30 [.slice (some ⟨gw, o + k * 32, none⟩) 32 32, .slice (some ⟨gt, 0, none⟩) 32 32] → Calls Tryd.prog 70 #[.agg #[.string f, .string r], .int .u8 3, .slice (some ⟨g, 0, none⟩) 2 2] X fun e w' => e = .returned (.agg (w8 (joinN (q k) (climbN (fromN S d) q key k))).toArray) ∧ Below X.heap.size X w') := Lib.hid fun X g h1 h2 h3 => by
          have hp := Parts.two' (b := X.heap.size) (x1 := (q k)) (x2 := (climbN (fromN S d) q key k)) h3 HF1.out.symm HC1.out.symm (by have := h3.lt; omega) (by omega) (by omega) ⟨by rw [HF1.out]; omega, .inr ⟨gw, o + k * 32, rfl, World.block_lt_of_cell? _ _ (h2 0 _ (w8_get (q k) 0 (by rw [HF1.out]; omega))), by have h9 := World.block_lt_of_cell? _ _ (h2 0 _ (w8_get (q k) 0 (by rw [HF1.out]; omega))); have h10 : gw < X.heap.size := h9; omega, fun i hi => h2 i _ (w8_get (q k) i hi)⟩, HF2.out⟩ (Src.blk (rest := []) (by rw [List.append_nil]; exact h1) (by have := h1.lt; omega) HC2.out 32 (by rw [HC1.out]; omega))
          exact reffor_any f r 3 2 2 _ _ [(q k), (climbN (fromN S d) q key k)] X HX (by omega) (Lib.hid hp) (Lib.hid rfl) (by omega) (Lib.hid (by simp [HC1.out, HF1.out])) (Lib.hid (by
            intro p hp x hx
            simp only [List.mem_cons, List.not_mem_nil, or_false] at hp
            rcases hp with rfl | rfl
            · exact HF2.out x hx
            · exact HC2.out x hx))
        have HJ1 : Hid ((Tryd.prog.info? 29).map (·.size) = some (w8 (joinN (q k) (climbN (fromN S d) q key k))).length) := Lib.hid (by rw [w8_length, joinN_length]; exact info29)
        have HJ2 : Hid ((w8 (climbN (fromN S d) q key k)).length = (w8 (joinN (q k) (climbN (fromN S d) q key k))).length) := Lib.hid (by rw [w8_length, w8_length, joinN_length, HC1.out])
        go_upto_region 10 with fail
        have hBz : Below wr.heap.size wr wr.drew := below_drewN (Below.refl _ _) 1
        have AX0 : Hid (Blk wr.drew w.heap.size 40 [.string f, .string r]) := Lib.hid (Ar.out.below hBz Ar.out.lt)
        have SX0 : Hid (Blk wr.drew (w.heap.size + 1) 99 (rsg S key (.slice (some ⟨gw, o, none⟩) m c))) := Lib.hid (Sr.out.below hBz Sr.out.lt)
        have RX0 : Hid (Blk wr.drew (w.heap.size + 1 + 1) 29 (w8 root)) := Lib.hid (Rr.out.below hBz Rr.out.lt)
        have TX0 : Hid (Blk wr.drew gt 29 (w8 (climbN (fromN S d) q key k))) := Lib.hid (Tr.out.below hBz Tr.out.lt)
        have FX0 : Hid ((∀ j u, (w8 (q k))[j]? = some u → wr.drew.cell? ⟨gw, o + k * 32 + j, none⟩ = some u)) := Lib.hid (fun j u hu => (hBz.cell (p := ⟨gw, o + k * 32 + j, none⟩) (World.block_lt_of_cell? _ _ (Fr.out j u hu))).trans (Fr.out j u hu))
        have BX0 : Hid (Below w.heap.size w wr.drew) := Lib.hid (Br.out.trans (hBz.mono Br.out.size))
        clear hBz
        refine wp_region_held_drew (S := fun w' => Blk w' w.heap.size 40 [.string f, .string r] ∧ Blk w' (w.heap.size + 1) 99 (rsg S key (.slice (some ⟨gw, o, none⟩) m c))) (by kernel_rfl) (⟨AX0.out, SX0.out⟩) (fun hHeld => ?_)
        generalize wr.drew = X0 at hHeld AX0 SX0 RX0 TX0 FX0 BX0 ⊢
        refine wpAnyH_take (i := 0) (v := .agg #[.string f, .string r]) rfl (by kernel_rfl) (by kernel_rfl) (by kernel_rfl) (fun _ _ _ h => h) (yieldsIf_load_mid (by rfl) 40 (.tmp 6) rfl w.heap.size 0 rfl [.string f, .string r] _ (fun w' h => h.1.all) Tryd.underlying40 rfl info40) hHeld ?_
        show wpAnyH _ _ _ _ _ _ _ (Act.put _ (some 57) _) _
        simp only [Act.put, List.setIfInBounds_toArray, List.set_cons_zero, List.set_cons_succ]
        refine wpAnyH_take (i := 1) (v := .pointer (some ⟨w.heap.size + 1, 1025, none⟩)) rfl (by kernel_rfl) (by kernel_rfl) (by kernel_rfl) (fun _ _ _ h => h) (Or.inl ⟨by rfl, by intro w' h; go_simp⟩) hHeld ?_
        show wpAnyH _ _ _ _ _ _ _ (Act.put _ (some 58) _) _
        simp only [Act.put, List.setIfInBounds_toArray, List.set_cons_zero, List.set_cons_succ]
        refine wpAnyH_take (i := 2) (v := .slice (some ⟨gw, o, none⟩) m c) rfl (by kernel_rfl) (by kernel_rfl) (by kernel_rfl) (fun _ _ _ h => h) (Or.inl ⟨by rfl, by intro w' h; have q9 := h.2.cell 1025; rw [rsg_way _ _ _ HSL.out] at q9; go_simp⟩) hHeld ?_
        show wpAnyH _ _ _ _ _ _ _ (Act.put _ (some 59) _) _
        simp only [Act.put, List.setIfInBounds_toArray, List.set_cons_zero, List.set_cons_succ]
        refine wpAnyH_take (i := 3) (v := .int .i64 (k : Int)) rfl (by kernel_rfl) (by kernel_rfl) (by kernel_rfl) (fun _ _ _ h => h) (Or.inl ⟨by rfl, fun w _ => by rfl⟩) hHeld ?_
        show wpAnyH _ _ _ _ _ _ _ (Act.put _ (some 60) _) _
        simp only [Act.put, List.setIfInBounds_toArray, List.set_cons_zero, List.set_cons_succ]
        refine wpAnyH_take (i := 4) (v := .pointer (some ⟨gw, o + k * 32, none⟩)) rfl (by kernel_rfl) (by kernel_rfl) (by kernel_rfl) (fun _ _ _ h => h) (Or.inl ⟨by rfl, by intro w' h; go_simp⟩) hHeld ?_
        show wpAnyH _ _ _ _ _ _ _ (Act.put _ (some 61) _) _
        simp only [Act.put, List.setIfInBounds_toArray, List.set_cons_zero, List.set_cons_succ]
        refine wpAnyH_take (i := 5) (v := .slice (some ⟨gw, o + k * 32, none⟩) 32 32) rfl (by kernel_rfl) (by kernel_rfl) (by kernel_rfl) (fun _ _ _ h => h) (Or.inl ⟨by rfl, by intro w' h; go_simp⟩) hHeld ?_
        show wpAnyH _ _ _ _ _ _ _ (Act.put _ (some 62) _) _
        simp only [Act.put, List.setIfInBounds_toArray, List.set_cons_zero, List.set_cons_succ]
        refine wpAnyH_take (i := 6) (v := .slice (some ⟨gt, 0, none⟩) 32 32) rfl (by kernel_rfl) (by kernel_rfl) (by kernel_rfl) (fun _ _ _ h => h) (Or.inl ⟨by rfl, by intro w' h; go_simp⟩) hHeld ?_
        show wpAnyH _ _ _ _ _ _ _ (Act.put _ (some 63) _) _
        simp only [Act.put, List.setIfInBounds_toArray, List.set_cons_zero, List.set_cons_succ]
        refine wpAnyH_ready (rs := [7]) (by kernel_rfl) (by simp) ?_
        refine AllReadyH.cons rfl (fun K hK => ?_) AllReadyH.nil
        refine Kt.step_lay rfl 23 2 #[(0, .tmp 62), (1, .tmp 63)] rfl #[(0, .slice (some ⟨gw, o + k * 32, none⟩) 32 32), (1, .slice (some ⟨gt, 0, none⟩) 32 32)] (by simp [Act.eval]) (.slice (some ⟨X0.heap.size, 0, none⟩) 2 2) (X0.alloc (.cells #[.slice (some ⟨gw, o + k * 32, none⟩) 32 32, .slice (some ⟨gt, 0, none⟩) 32 32] 30)) (by kernel_rfl) ?_
        have hB : Below X0.heap.size X0 (X0.alloc (.cells #[.slice (some ⟨gw, o + k * 32, none⟩) 32 32, .slice (some ⟨gt, 0, none⟩) 32 32] 30)) := (Below.refl _ _).alloc (Nat.le_refl _) _
        have hL := Blk.new X0 30 [.slice (some ⟨gw, o + k * 32, none⟩) 32 32, .slice (some ⟨gt, 0, none⟩) 32 32]
        generalize X0.alloc (.cells #[.slice (some ⟨gw, o + k * 32, none⟩) 32 32, .slice (some ⟨gt, 0, none⟩) 32 32] 30) = X1 at hB hL ⊢
        generalize X0.heap.size = gl at hL ⊢
        have AX1 : Hid (Blk X1 w.heap.size 40 [.string f, .string r]) := Lib.hid (AX0.out.below hB AX0.out.lt)
        have SX1 : Hid (Blk X1 (w.heap.size + 1) 99 (rsg S key (.slice (some ⟨gw, o, none⟩) m c))) := Lib.hid (SX0.out.below hB SX0.out.lt)
        have RX1 : Hid (Blk X1 (w.heap.size + 1 + 1) 29 (w8 root)) := Lib.hid (RX0.out.below hB RX0.out.lt)
        have TX1 : Hid (Blk X1 gt 29 (w8 (climbN (fromN S d) q key k))) := Lib.hid (TX0.out.below hB TX0.out.lt)
        have FX1 : Hid ((∀ j u, (w8 (q k))[j]? = some u → X1.cell? ⟨gw, o + k * 32 + j, none⟩ = some u)) := Lib.hid (fun j u hu => (hB.cell (p := ⟨gw, o + k * 32 + j, none⟩) (World.block_lt_of_cell? _ _ (FX0.out j u hu))).trans (FX0.out j u hu))
        have BX1 : Hid (Below w.heap.size w X1) := Lib.hid (BX0.out.trans (hB.mono BX0.out.size))
        have LX1 : Hid (Blk X1 gl 30 [.slice (some ⟨gw, o + k * 32, none⟩) 32 32, .slice (some ⟨gt, 0, none⟩) 32 32]) := Lib.hid (hL)
        clear AX0 SX0 RX0 TX0 FX0 BX0 hB hL
        refine hK.out _ _ (⟨AX1.out, SX1.out⟩) (fun hHeld => ?_)
        clear hK K
        show wpAnyH _ _ _ _ _ _ _ (Act.put _ (some 64) _) _
        simp only [Act.put, List.setIfInBounds_toArray, List.set_cons_zero, List.set_cons_succ]
        refine wpAnyH_ready (rs := [8]) (by kernel_rfl) (by simp) ?_
        refine AllReadyH.cons rfl (fun K hK => ?_) AllReadyH.nil
        refine step_call rfl 70 #[.tmp 57, .const (.int .u8 3), .tmp 64] #[40, 5, 23] rfl #[.agg #[.string f, .string r], .int .u8 3, .slice (some ⟨gl, 0, none⟩) 2 2] (by simp [Act.eval]) (by go_simp) (HRF2.out X1 gl TX1.out FX1.out LX1.out) ?_
        rintro e X2 ⟨rfl, hB⟩
        have AX2 : Hid (Blk X2 w.heap.size 40 [.string f, .string r]) := Lib.hid (AX1.out.below hB AX1.out.lt)
        have SX2 : Hid (Blk X2 (w.heap.size + 1) 99 (rsg S key (.slice (some ⟨gw, o, none⟩) m c))) := Lib.hid (SX1.out.below hB SX1.out.lt)
        have RX2 : Hid (Blk X2 (w.heap.size + 1 + 1) 29 (w8 root)) := Lib.hid (RX1.out.below hB RX1.out.lt)
        have TX2 : Hid (Blk X2 gt 29 (w8 (climbN (fromN S d) q key k))) := Lib.hid (TX1.out.below hB TX1.out.lt)
        have FX2 : Hid ((∀ j u, (w8 (q k))[j]? = some u → X2.cell? ⟨gw, o + k * 32 + j, none⟩ = some u)) := Lib.hid (fun j u hu => (hB.cell (p := ⟨gw, o + k * 32 + j, none⟩) (World.block_lt_of_cell? _ _ (FX1.out j u hu))).trans (FX1.out j u hu))
        have BX2 : Hid (Below w.heap.size w X2) := Lib.hid (BX1.out.trans (hB.mono BX1.out.size))
        have LX2 : Hid (Blk X2 gl 30 [.slice (some ⟨gw, o + k * 32, none⟩) 32 32, .slice (some ⟨gt, 0, none⟩) 32 32]) := Lib.hid (LX1.out.below hB LX1.out.lt)
        clear AX1 SX1 RX1 TX1 FX1 BX1 LX1 hB
        refine ⟨_, rfl, hK.out _ _ (⟨AX2.out, SX2.out⟩) (fun hHeld => ?_)⟩
        clear hK K
        show wpAnyH _ _ _ _ _ _ _ (Act.put _ (some 65) _) _
        simp only [Act.put, List.setIfInBounds_toArray, List.set_cons_zero, List.set_cons_succ]
        refine wpAnyH_ready (rs := [9]) (by kernel_rfl) (by simp) ?_
        refine AllReadyH.cons rfl (fun K hK => ?_) AllReadyH.nil
        refine Kt.step_store rfl 29 (.tmp 14) (.tmp 65) rfl gt (w8 (joinN (q k) (climbN (fromN S d) q key k))) rfl rfl 29 _ TX2.out HJ1.out HJ2.out (all_oneCell_toArray (w8_one _)) ?_
        intro X3 hZ hO
        have AE := Lib.hid (AX2.out.grown hO (fun e => by injection e with e; omega))
        have SE := Lib.hid (SX2.out.grown hO (fun e => by injection e with e; omega))
        have RE := Lib.hid (RX2.out.grown hO (fun e => by injection e with e; omega))
        have TE := Lib.hid hZ
        have BE := Lib.hid (BX2.out.trans (only_up hO (by omega) BX2.out.size))
        clear hZ hO AX2 SX2 RX2 TX2 FX2 BX2 LX2
        refine hK.out _ _ (⟨AE.out, SE.out⟩) (fun hHeld => ?_)
        clear hK K
        show wpAnyH _ _ _ _ _ _ _ (Act.put _ none _) _
        simp only [Act.put]
        refine wpAnyH_done (by kernel_rfl) ?_ _
        clear hHeld
        have TE2 : Hid (Blk X3 gt 29 (w8 (climbN (fromN S d) q key (k + 1)))) := Lib.hid (by unfold climbN; rw [if_neg hpar]; exact TE.out)
        clear TE
        go_wp2
        go_roundw
        case rel => exact ⟨k + 1, by omega, by go_num, by rw [hdiv]; rfl, AE, SE, RE, TE2, BE⟩
        case measure => simp [intOf]; omega
    · obtain rfl : k = m := by omega
      have HC1 := Lib.hid (climbN_length (fromN S d) q key HFL.out k)
      have HIC : Hid ((Tryd.prog.info? 29).map (·.size) = some (w8 (climbN (fromN S d) q key k)).length) := Lib.hid (by rw [w8_length, HC1.out]; exact info29)
      have HRT := Lib.hid Tr.out.all
      have HRR := Lib.hid Rr.out.all
      have hwl := within_lt key k
      rw [hy] at hwl
      have HRV : Hid (rightN S key q k root k key d = decide (y = 0 ∧ (climbN (fromN S d) q key k) = root)) := Lib.hid (by
        unfold rightN
        rw [decide_eq_decide]
        exact ⟨fun h => ⟨hwl.2 h.2.2.1, h.2.2.2⟩, fun h => ⟨rfl, rfl, hwl.1 h.1, h.2⟩⟩)
      have hq : ∀ W : World, (binOp .eql 29 (.agg (w8 (climbN (fromN S d) q key k)).toArray) (.agg (w8 root).toArray)).run Tryd.prog W = .ok (.bool (decide ((climbN (fromN S d) q key k) = root))) W := fun W => eql_row Tryd.underlying29 _ _ HC1.out HRL.out W
      clear hwl hdiv ydiv ymod
      generalize (climbN (fromN S d) q key k) = cur at *
      by_cases hy0 : y = 0
      · subst hy0
        have e0 : ((0 : Nat) : Int) = 0 := rfl
        rw [e0]
        clear hy9 hyl hy e0
        go_wp2_with (first | (refine wpList_load_g rfl 29 (.tmp 14) rfl gt 0 rfl (w8 cur) _ HRT.out Tryd.underlying29 rfl HIC.out ?_) | (refine wpList_load_g rfl 29 (.tmp 8) rfl (w.heap.size + 1 + 1) 0 rfl (w8 root) _ HRR.out Tryd.underlying29 rfl HI3.out ?_))
        go_ret
        exact ⟨by rw [HRV.out]; simp, Br.out⟩
      · have hy1 : ¬ (y : Int) = 0 := by omega
        go_wp2
        go_ret
        exact ⟨by have hf : rightN S key q k root k key d = false := HRV.out.trans (decide_eq_false (fun h => hy0 h.1)); rw [hf]; rfl, Br.out⟩
end Go.Proofs.YtkonokjhpddbfaaDoor
