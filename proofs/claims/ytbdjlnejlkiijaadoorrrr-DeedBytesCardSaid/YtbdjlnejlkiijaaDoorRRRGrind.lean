/-
  mill.grind (function 32): a full block is brought into the words; only the mill's own block is written.
-/
import Derived.Test.YtbdjlnejlkiijaaDoorRRRSpread
namespace Go.Proofs.YtbdjlnejlkiijaaDoorRRR
open Go.RowKit
set_option linter.unusedVariables false

/-- A mill's cells: its words, its block, how many bytes came. -/
def millCells (ws bs : List Nat) (n : Nat) : List Value := w32 ws ++ (w8 bs ++ [.int .u64 (n : Int)])

theorem mill_length (ws bs : List Nat) (n : Nat) (h1 : ws.length = 8) (h2 : bs.length = 64) : (millCells ws bs n).length = 73 := by simp [millCells, w32_length, w8_length, h1, h2]
theorem mill_word (ws bs : List Nat) (n i : Nat) (h1 : ws.length = 8) (h : i < 8) : (millCells ws bs n)[i]? = some (.int .u32 ((ws.getD i 0 : Nat) : Int)) := by
  unfold millCells
  rw [List.getElem?_append_left (by rw [w32_length]; omega), w32_get _ _ (by omega)]
theorem mill_many (ws bs : List Nat) (n : Nat) (h1 : ws.length = 8) (h2 : bs.length = 64) : (millCells ws bs n)[72]? = some (.int .u64 (n : Int)) := by
  unfold millCells
  rw [List.getElem?_append_right (by rw [w32_length]; omega), List.getElem?_append_right (by rw [w32_length, w8_length]; omega), w32_length, w8_length, h1, h2]
  rfl
theorem mill_block (ws bs : List Nat) (n : Nat) (h1 : ws.length = 8) (h2 : bs.length = 64) : ((millCells ws bs n).drop 8).take 64 = w8 bs := by
  unfold millCells
  rw [List.drop_left' (by rw [w32_length, h1]), List.take_left' (by rw [w8_length, h2])]
theorem mill_set (ws bs : List Nat) (n i x : Nat) (h1 : ws.length = 8) (h : i < 8) : (millCells ws bs n).set i (.int .u32 (x : Int)) = millCells (ws.set i x) bs n := by
  unfold millCells
  rw [List.set_append_left _ _ (by rw [w32_length]; omega)]
  simp [w32, List.map_set]

/-- A row of numbers at a place. -/
theorem run_index_row {t e n : Nat} {i0 : TypeInfo} {k : IntKind} (ht : Tryd.prog.underlying t = some (.array n e)) (hi : Tryd.prog.info? e = some i0) (hz : i0.size = 1) (he : Tryd.prog.underlying e = some (.int k)) (cs : List Value) (i : Nat) (v : Value) (hv : cs[i]? = some v) (hin : i < n) (w : World) :
    (Instr.index t (.agg cs.toArray) (.int .i64 (i : Int))).run Tryd.prog w = .ok v w := by
  simp [Instr.index, asIntOf, run_underlying ht, part, isAgg, run_underlying he, sizeOf, typeInfo, hi, hz, hv, hin]

theorem info61 : (Tryd.prog.info? 22).map (fun i => (i.zero, i.size, i.bytes)) = some (some (.int .u32 0), 1, 4) := by kernel_rfl
theorem info63 : (Tryd.prog.info? 141).map (·.size) = some 64 := by kernel_rfl

theorem index_plan (W : List Nat) (i : Nat) (h : i < W.length) (hw : W.length = 64) (w : World) : (Instr.index 155 (.agg (w32 W).toArray) (.int .i64 (i : Int))).run Tryd.prog w = .ok (.int .u32 ((W.getD i 0 : Nat) : Int)) w := by
  obtain ⟨i0, hi, hz0, hz1, hz2⟩ := info_parts info61
  exact run_index_row Tryd.underlying155 hi hz1 Tryd.underlying22 _ i _ (w32_get W i h) (by omega) w

/-- The constants lie where they should. -/
def Tab (w : World) : Prop := w.rangeAt 0 0 (w32 kws)

theorem Tab.at {w : World} (h : Tab w) (i : Nat) (hi : i < 64) : w.cell? ⟨0, i, none⟩ = some (.int .u32 ((kws.getD i 0 : Nat) : Int)) := by
  have := h i _ (w32_get kws i (by show i < 64; exact hi))
  simpa using this

/-- Where the rounds stand. -/
def Stands (bs ws : List Nat) (k y0 y1 y2 y3 y4 y5 y6 y7 : Nat) : Prop := runs kws (sched bs 64) (stOf ws) k = ⟨y0, y1, y2, y3, y4, y5, y6, y7⟩

theorem Stands.ok {bs ws : List Nat} {k y0 y1 y2 y3 y4 y5 y6 y7 : Nat} (h : Stands bs ws k y0 y1 y2 y3 y4 y5 y6 y7) (hw : ∀ x ∈ ws, x < 4294967296) : (⟨y0, y1, y2, y3, y4, y5, y6, y7⟩ : St).Ok := by
  have := runs_ok kws (sched bs 64) (stOf ws) (stOf_ok ws hw) k
  rw [h] at this
  exact this

theorem Stands.next {bs ws : List Nat} {k y0 y1 y2 y3 y4 y5 y6 y7 x c : Nat} (h : Stands bs ws k y0 y1 y2 y3 y4 y5 y6 y7) (hx : (sched bs 64).getD k 0 = x) (hc : kws.getD k 0 = c) :
    Stands bs ws (k + 1) ((fst ⟨y0, y1, y2, y3, y4, y5, y6, y7⟩ c x + bgA y0 + maj y0 y1 y2) % 4294967296) y0 y1 y2 ((y3 + fst ⟨y0, y1, y2, y3, y4, y5, y6, y7⟩ c x) % 4294967296) y4 y5 y6 := by
  unfold Stands at *
  rw [runs, h, hx, hc]
  rfl

theorem bgE_num (x : Nat) (hx : x < 4294967296) : bits .xor .u32 (bits .xor .u32 ((rotr 6 x : Nat) : Int) ((rotr 11 x : Nat) : Int)) ((rotr 25 x : Nat) : Int) = ((bgE x : Nat) : Int) := by
  have h1 := rotr_lt 6 x (by omega) hx
  have h2 := rotr_lt 11 x (by omega) hx
  have h3 := rotr_lt 25 x (by omega) hx
  rw [u32_xor_nat _ _ h1 h2, u32_xor_nat _ _ (xor_lt h1 h2) h3]
  rfl
theorem bgA_num (x : Nat) (hx : x < 4294967296) : bits .xor .u32 (bits .xor .u32 ((rotr 2 x : Nat) : Int) ((rotr 13 x : Nat) : Int)) ((rotr 22 x : Nat) : Int) = ((bgA x : Nat) : Int) := by
  have h1 := rotr_lt 2 x (by omega) hx
  have h2 := rotr_lt 13 x (by omega) hx
  have h3 := rotr_lt 22 x (by omega) hx
  rw [u32_xor_nat _ _ h1 h2, u32_xor_nat _ _ (xor_lt h1 h2) h3]
  rfl
theorem maj_num (a b c : Nat) (ha : a < 4294967296) (hb : b < 4294967296) (hc : c < 4294967296) : bits .xor .u32 (bits .xor .u32 (bits .and .u32 (a : Int) (b : Int)) (bits .and .u32 (a : Int) (c : Int))) (bits .and .u32 (b : Int) (c : Int)) = ((maj a b c : Nat) : Int) := by
  rw [u32_and_nat _ _ ha hb, u32_and_nat _ _ ha hc, u32_and_nat _ _ hb hc, u32_xor_nat _ _ (and_lt hb) (and_lt hc), u32_xor_nat _ _ (xor_lt (and_lt hb) (and_lt hc)) (and_lt hc)]
  rfl

theorem not_num (e : Nat) (he : e < 4294967296) : 4294967295 ^^^ e = 4294967295 - e := by
  have h1 : (BitVec.allOnes 32 ^^^ BitVec.ofNat 32 e).toNat = (~~~ (BitVec.ofNat 32 e)).toNat := by rw [BitVec.allOnes_xor]
  rw [BitVec.toNat_xor, BitVec.toNat_not, BitVec.toNat_allOnes, BitVec.toNat_ofNat, Nat.mod_eq_of_lt (by omega)] at h1
  exact h1

theorem chs_num (e f g : Nat) (he : e < 4294967296) (hf : f < 4294967296) (hg : g < 4294967296) :
    bits .xor .u32 (bits .and .u32 (e : Int) (f : Int)) (bits .and .u32 (bits .xor .u32 (if IntKind.u32.signed = true then -1 else IntKind.u32.max) (e : Int)) (g : Int)) = ((chs e f g : Nat) : Int) := by
  have hm : (if IntKind.u32.signed = true then -1 else IntKind.u32.max) = ((4294967295 : Nat) : Int) := by decide
  rw [hm, u32_xor_nat _ _ (by omega) he, not_num e he, u32_and_nat _ _ he hf, u32_and_nat _ _ (by omega) hg, u32_xor_nat _ _ (and_lt hf) (and_lt hg)]
  rfl

theorem first_num (z3 a b c d e f g : Nat) : (((a : Int) + (b : Int) + (c : Int) + (d : Int) + (e : Int) + (f : Int)) % 4294967296 + (g : Int)) % 4294967296 = (((((a + b + c + d + e) % 4294967296 + f + g) % 4294967296 : Nat)) : Int) := by omega
theorem fifth_num (z3 a b c d e : Nat) : ((z3 : Int) + ((a : Int) + (b : Int) + (c : Int) + (d : Int) + (e : Int)) % 4294967296) % 4294967296 = (((z3 + (a + b + c + d + e) % 4294967296) % 4294967296 : Nat) : Int) := by omega
theorem val_u32 {a b : Int} (h : a = b) : Value.int .u32 a = .int .u32 b := by rw [h]

/-- The words, as far as they are brought in. -/
def part (ws vs : List Nat) (k : Nat) : List Nat := (addw ws vs).take k ++ ws.drop k
theorem part_length (ws vs : List Nat) (k : Nat) (h : ws.length = 8) (hv : vs.length = 8) (hk : k ≤ 8) : (part ws vs k).length = 8 := by simp [part, addw, h, hv]; omega
theorem part_get (ws vs : List Nat) (k : Nat) (h : ws.length = 8) (hv : vs.length = 8) (hk : k < 8) : (part ws vs k).getD k 0 = ws.getD k 0 := by
  unfold part
  rw [List.getD, List.getElem?_append_right (by simp [addw, h, hv]; omega)]
  have : k - ((addw ws vs).take k).length = 0 := by simp [addw, h, hv]; omega
  rw [this, List.getElem?_drop]
  simp [List.getD]
theorem part_set (ws vs : List Nat) (k : Nat) (h : ws.length = 8) (hv : vs.length = 8) (hk : k < 8) : (part ws vs k).set k ((ws.getD k 0 + vs.getD k 0) % 4294967296) = part ws vs (k + 1) := by
  have hl : (addw ws vs).length = 8 := by simp [addw, h, hv]
  have e : (addw ws vs)[k]'(by omega) = (ws.getD k 0 + vs.getD k 0) % 4294967296 := by
    simp [addw, List.getD, h, hv, hk]
  unfold part
  rw [List.set_append_right _ _ (by simp [hl]; omega), List.take_succ_eq_append_getElem (by omega), e, List.drop_eq_getElem_cons (by omega : k < ws.length)]
  have : k - ((addw ws vs).take k).length = 0 := by simp [hl]; omega
  rw [this, List.set_cons_zero, List.append_assoc]
  rfl
theorem part_end (ws vs : List Nat) (h : ws.length = 8) (hv : vs.length = 8) : part ws vs 8 = addw ws vs := by
  unfold part
  rw [List.drop_eq_nil_of_le (by omega), List.take_of_length_le (by simp [addw, h, hv])]
  simp

theorem index_eight (W : List Nat) (i : Nat) (h : i < 8) (hw : W.length = 8) (w : World) : (Instr.index 140 (.agg (w32 W).toArray) (.int .i64 (i : Int))).run Tryd.prog w = .ok (.int .u32 ((W.getD i 0 : Nat) : Int)) w := by
  obtain ⟨i0, hi, hz0, hz1, hz2⟩ := info_parts info61
  exact run_index_row Tryd.underlying140 hi hz1 Tryd.underlying22 _ i _ (w32_get W i (by omega)) h w

theorem Stands.end_ {bs ws : List Nat} {y0 y1 y2 y3 y4 y5 y6 y7 : Nat} (h : Stands bs ws 64 y0 y1 y2 y3 y4 y5 y6 y7) : comp ws bs = addw ws [y0, y1, y2, y3, y4, y5, y6, y7] := by
  unfold comp
  rw [h]
  rfl

set_option maxRecDepth 100000 in
set_option maxHeartbeats 4000000 in
theorem grind_any (b n : Nat) (ws bs : List Nat) (w : World) (HM : Hid (Blk w b 143 (millCells ws bs n))) (HT : Hid (Tab w)) (hb : b ≠ 0) (H8 : Hid (ws.length = 8)) (HL : Hid (bs.length = 64)) (HB : Hid (∀ x ∈ bs, x < 256)) (HW : Hid (∀ x ∈ ws, x < 4294967296)) :
    Calls Tryd.prog 73 #[.pointer (some ⟨b, 0, none⟩)] w fun e w' => e = .returned (.tuple #[]) ∧ Blk w' b 143 (millCells (comp ws bs) bs n) ∧ w.grownBy w' (some b) := by
  have HR : Hid (w.rangeAt b 8 (w8 bs)) := Lib.hid (by have := HM.out.range 8 64; rw [mill_block ws bs n H8.out HL.out] at this; exact this)
  have HI : Hid ((Tryd.prog.info? 141).map (·.size) = some (w8 bs).length) := Lib.hid (by rw [w8_length, HL.out]; exact info63)
  have HS : Hid ((Tryd.prog.info? 155).map (·.size) = some (w32 (sched bs 64)).toArray.size) := Lib.hid (by rw [List.size_toArray, w32_length, sched_length]; exact info74)
  have HO := Lib.hid (all_oneCell_toArray (w32_one (sched bs 64)))
  have HZ : Hid (zplan.size = (w32 (sched bs 64)).toArray.size) := Lib.hid (by simp [w32_length, sched_length, zplan])
  have HI2 : Hid ((Tryd.prog.info? 155).map (·.size) = some (w32 (sched bs 64)).length) := Lib.hid (by rw [w32_length, sched_length]; exact info74)
  go_enter Tryd.func73, Tryd.ntmps73
  go_wp2_with (first | (refine wpList_load_mid rfl 141 (.tmp 22) rfl b 8 rfl (w8 bs) _ HR.out Tryd.underlying141 rfl HI.out ?_))
  refine (spread_any bs _ HL HB).mono ?_
  rintro e w1 ⟨rfl, hB1⟩
  have HB1 := Lib.hid hB1
  have HLA := Lib.hid (heap_alloc_last w1 (.cells zplan 155))
  clear hB1
  go_wp2_with (first | (refine wpList_store_row rfl 155 (.tmp 2) (.tmp 24) rfl w1.heap.size (w32 (sched bs 64)).toArray rfl rfl 155 _ HLA.out HS.out HZ.out HO.out ?_; rw [World.setRow_alloc_new]))
  have HBN := Lib.hid (HB1.out.alloc HB1.out.size (.cells (w32 (sched bs 64)).toArray 155))
  have HP := Lib.hid (Blk.new w1 155 (w32 (sched bs 64)))
  obtain ⟨w2, hw2⟩ : ∃ w2, w1.alloc (.cells (w32 (sched bs 64)).toArray 155) = w2 := ⟨_, rfl⟩
  rw [hw2] at HBN HP ⊢
  clear hw2
  have hm2 := HM.out.below HBN.out HM.out.lt
  have c0 := hm2.cell 0
  have c1 := hm2.cell 1
  have c2 := hm2.cell 2
  have c3 := hm2.cell 3
  have c4 := hm2.cell 4
  have c5 := hm2.cell 5
  have c6 := hm2.cell 6
  have c7 := hm2.cell 7
  rw [mill_word _ _ _ _ H8.out (by omega)] at c0 c1 c2 c3 c4 c5 c6 c7
  have hst : Stands bs ws 0 (ws.getD 0 0) (ws.getD 1 0) (ws.getD 2 0) (ws.getD 3 0) (ws.getD 4 0) (ws.getD 5 0) (ws.getD 6 0) (ws.getD 7 0) := rfl
  generalize ws.getD 0 0 = y0 at *
  generalize ws.getD 1 0 = y1 at *
  generalize ws.getD 2 0 = y2 at *
  generalize ws.getD 3 0 = y3 at *
  generalize ws.getD 4 0 = y4 at *
  generalize ws.getD 5 0 = y5 at *
  generalize ws.getD 6 0 = y6 at *
  generalize ws.getD 7 0 = y7 at *
  have HST := Lib.hid hst
  clear hst
  have HM2 := Lib.hid hm2
  have HT2 : Hid (Tab w2) := Lib.hid fun j v hv => by
    rw [HBN.out.cell (p := ⟨0, 0 + j, none⟩) (World.block_lt_of_cell? w _ (HT.out j v hv))]
    exact HT.out j v hv
  have HPR := Lib.hid HP.out.all
  clear hm2
  go_quiet (fail)
  go_wp2_with fail
  go_quiet (fail)
  go_wp2_with (first | (refine wpList_load_mid rfl 155 (.tmp 2) rfl w1.heap.size 0 rfl (w32 (sched bs 64)) _ HPR.out Tryd.underlying155 rfl HI2.out ?_))
  go_loop [66, 3, 4, 5, 6, 7, 8, 9, 10] (fun i v0 v1 v2 v3 v4 v5 v6 v7 => ∃ (k z0 z1 z2 z3 z4 z5 z6 z7 : Nat), k ≤ 64 ∧ i = .int .i64 k ∧ v0 = .int .u32 z0 ∧ v1 = .int .u32 z1 ∧ v2 = .int .u32 z2 ∧ v3 = .int .u32 z3 ∧ v4 = .int .u32 z4 ∧ v5 = .int .u32 z5 ∧ v6 = .int .u32 z6 ∧ v7 = .int .u32 z7 ∧ Hid (Stands bs ws k z0 z1 z2 z3 z4 z5 z6 z7)) (fun i _ _ _ _ _ _ _ _ => 64 - (intOf i).toNat)
  case atStart => exact ⟨0, y0, y1, y2, y3, y4, y5, y6, y7, Nat.zero_le _, rfl, rfl, rfl, rfl, rfl, rfl, rfl, rfl, rfl, HST⟩
  case round =>
    obtain ⟨k, z0, z1, z2, z3, z4, z5, z6, z7, hk, rfl, rfl, rfl, rfl, rfl, rfl, rfl, rfl, rfl, HK⟩ := hrel
    clear c0 c1 c2 c3 c4 c5 c6 c7
    by_cases hlt : k < 64
    · obtain ⟨l0, l1, l2, l3, l4, l5, l6, l7⟩ := HK.out.ok HW.out
      simp only at l0 l1 l2 l3 l4 l5 l6 l7
      have hcg := HT2.out.at k hlt
      have hix := fun W => index_plan (sched bs 64) k (by rw [sched_length]; exact hlt) (sched_length bs 64) W
      obtain ⟨x, hx⟩ : ∃ x, (sched bs 64).getD k 0 = x := ⟨_, rfl⟩
      obtain ⟨c, hc⟩ : ∃ c, kws.getD k 0 = c := ⟨_, rfl⟩
      have HN := Lib.hid (HK.out.next hx hc)
      rw [hc] at hcg
      simp only [hx] at hix
      have lc : c < 4294967296 := by rw [← hc]; exact getD_lt (by omega) kws_lt k
      have lx : x < 4294967296 := by rw [← hx]; exact getD_lt (by omega) (sched_lt bs HB.out 64) k
      have i0 : (0 : Int) ≤ (k : Int) := by omega
      have i1 : (k : Int) < 64 := by omega
      clear hx hc
      go_wp2_with fail
      ((with_reducible refine (turn6 z4 _ l4).mono ?_))
      rintro e w' ⟨rfl, rfl⟩
      go_wp2_with fail
      ((with_reducible refine (turn11 z4 _ l4).mono ?_))
      rintro e w' ⟨rfl, rfl⟩
      go_wp2_with fail
      ((with_reducible refine (turn25 z4 _ l4).mono ?_))
      rintro e w' ⟨rfl, rfl⟩
      go_wp2_with fail
      ((with_reducible refine (turn2 z0 _ l0).mono ?_))
      rintro e w' ⟨rfl, rfl⟩
      go_wp2_with fail
      ((with_reducible refine (turn13 z0 _ l0).mono ?_))
      rintro e w' ⟨rfl, rfl⟩
      go_wp2_with fail
      ((with_reducible refine (turn22 z0 _ l0).mono ?_))
      rintro e w' ⟨rfl, rfl⟩
      go_wp2
      go_round
      case rel =>
        refine ⟨k + 1, _, _, _, _, _, _, _, _, by omega, by go_num, ?_, rfl, rfl, rfl, ?_, rfl, rfl, rfl, HN⟩
        · rw [bgE_num z4 l4, bgA_num z0 l0, chs_num z4 z5 z6 l4 l5 l6, maj_num z0 z1 z2 l0 l1 l2, first_num 0]
          rfl
        · rw [bgE_num z4 l4, chs_num z4 z5 z6 l4 l5 l6, fifth_num]
          rfl
      case measure => simp [intOf]; omega
    · obtain rfl : k = 64 := by omega
      rw [show ((64 : Nat) : Int) = 64 from rfl]
      have HE := Lib.hid HK.out.end_
      obtain ⟨l0, l1, l2, l3, l4, l5, l6, l7⟩ := HK.out.ok HW.out
      simp only at l0 l1 l2 l3 l4 l5 l6 l7
      have HVL : Hid (∀ x ∈ [z0, z1, z2, z3, z4, z5, z6, z7], x < 4294967296) := Lib.hid (by simp; omega)
      go_wp2_with fail
      go_loopw [140] (fun i wr => ∃ (k : Nat), k ≤ 8 ∧ i = .int .i64 k ∧ Hid (Blk wr b 143 (millCells (part ws [z0, z1, z2, z3, z4, z5, z6, z7] k) bs n)) ∧ Hid (w.grownBy wr (some b))) (fun i _ => 8 - (intOf i).toNat)
      case atStart => exact ⟨0, Nat.zero_le _, rfl, HM2, Lib.hid (only_drewN (only_below (only_refl w _) HBN.out) _)⟩
      case round =>
        obtain ⟨j, hj, rfl, HM3, HG⟩ := hrel
        by_cases hlt2 : j < 8
        · have hix := fun W => index_eight [z0, z1, z2, z3, z4, z5, z6, z7] j hlt2 rfl W
          have hset := part_set ws [z0, z1, z2, z3, z4, z5, z6, z7] j H8.out rfl hlt2
          obtain ⟨x, hx⟩ : ∃ x, [z0, z1, z2, z3, z4, z5, z6, z7].getD j 0 = x := ⟨_, rfl⟩
          obtain ⟨y, hy⟩ : ∃ y, ws.getD j 0 = y := ⟨_, rfl⟩
          have lx : x < 4294967296 := by rw [← hx]; exact getD_lt (by omega) HVL.out j
          have ly : y < 4294967296 := by rw [← hy]; exact getD_lt (by omega) HW.out j
          simp only [hx] at hix
          have hcell := HM3.out.cell j
          rw [mill_word _ _ _ _ (part_length ws _ j H8.out rfl (by omega)) hlt2, part_get ws _ j H8.out rfl hlt2, hy] at hcell
          rw [hx, hy] at hset
          have HSE := Lib.hid hset
          have hf := HM3.out.frozen j
          have i0 : (0 : Int) ≤ (j : Int) := by omega
          have i1 : (j : Int) < 8 := by omega
          clear hx hy hset
          simp only [w32, List.map_cons, List.map_nil] at hix
          go_wp2_with fail
          go_region
          go_wp2
          go_roundw
          case rel =>
            refine ⟨j + 1, by omega, by go_num, Lib.hid ?_, Lib.hid ?_⟩
            · have h := HM3.out.set_ j (.int .u32 (((y + x) % 4294967296 : Nat) : Int))
              rw [mill_set _ _ _ j _ (part_length ws _ j H8.out rfl (by omega)) hlt2, HSE.out] at h
              simp only [Int.natCast_emod, Int.natCast_add] at h
              exact h
            · exact only_drewN (only_setCell HG.out (.inl rfl) _) 1
          case measure => simp [intOf]; omega
        · obtain rfl : j = 8 := by omega
          have HF : Hid (Blk wr b 143 (millCells (comp ws bs) bs n)) := Lib.hid (by rw [HE.out, ← part_end ws _ H8.out rfl]; exact HM3.out)
          go_wp2
          go_end0
          exact ⟨rfl, HF.out, HG.out⟩
end Go.Proofs.YtbdjlnejlkiijaaDoorRRR
