/-
  mill.spread (function 33): of any 64 bytes the plan, one word for each round; memory that was there stays as it was.
-/
import Derived.Test.YtbdjlnejlkiijaaDoorRRRMem
namespace Go.Proofs.YtbdjlnejlkiijaaDoorRRR
open Go.RowKit
set_option linter.unusedVariables false

/-- A plan so far: the words that are there, and zeros. -/
def planCells (W : List Nat) : List Value := w32 (W ++ List.replicate (64 - W.length) 0)

theorem plan_get (W : List Nat) (k : Nat) (hk : k < W.length) : (planCells W)[k]? = some (.int .u32 ((W.getD k 0 : Nat) : Int)) := by
  unfold planCells
  rw [w32_get _ _ (by simp; omega)]
  simp [List.getD, List.getElem?_append_left hk]

theorem plan_next (W : List Nat) (k : Nat) (hk : W.length = k) (h : k < 64) : (planCells W)[k]? = some (.int .u32 0) := by
  unfold planCells
  rw [w32_get _ _ (by simp; omega)]
  rw [List.getD, List.getElem?_append_right (by omega), List.getElem?_replicate, if_pos (by omega)]
  rfl

theorem plan_set (W : List Nat) (k x : Nat) (hk : W.length = k) (h : k < 64) : (planCells W).set k (.int .u32 (x : Int)) = planCells (W ++ [x]) := by
  subst hk
  unfold planCells w32
  have e : 64 - W.length = (64 - (W ++ [x]).length) + 1 := by simp; omega
  rw [e, List.replicate_succ, List.map_append, List.map_append, List.map_append, List.map_cons, List.set_append_right _ _ (by simp)]
  simp

theorem plan_whole (W : List Nat) (h : W.length = 64) : planCells W = w32 W := by simp [planCells, h]

theorem word_num (x0 x1 x2 x3 : Nat) (h0 : x0 < 256) (h1 : x1 < 256) (h2 : x2 < 256) (h3 : x3 < 256) :
    bits .or .u32 (bits .or .u32 (bits .or .u32 ((x0 : Int) * 16777216) ((x1 : Int) * 65536)) ((x2 : Int) * 256)) (x3 : Int) = ((x0 * 16777216 + x1 * 65536 + x2 * 256 + x3 : Nat) : Int) := by
  have e0 : (x0 : Int) * 16777216 = ((x0 * 16777216 : Nat) : Int) := by simp
  have e1 : (x1 : Int) * 65536 = ((x1 * 65536 : Nat) : Int) := by simp
  have e2 : (x2 : Int) * 256 = ((x2 * 256 : Nat) : Int) := by simp
  rw [e0, e1, e2, u32_or_nat _ _ (by omega) (by omega), nat_join 24 (x0 * 16777216) (x1 * 65536) (by omega) (by omega), u32_or_nat _ _ (by omega) (by omega), nat_join 16 _ (x2 * 256) (by omega) (by omega), u32_or_nat _ _ (by omega) (by omega), nat_join 8 _ x3 (by omega) (by omega)]

def zplan : Array Value := #[.int .u32 0, .int .u32 0, .int .u32 0, .int .u32 0, .int .u32 0, .int .u32 0, .int .u32 0, .int .u32 0, .int .u32 0, .int .u32 0, .int .u32 0, .int .u32 0, .int .u32 0, .int .u32 0, .int .u32 0, .int .u32 0, .int .u32 0, .int .u32 0, .int .u32 0, .int .u32 0, .int .u32 0, .int .u32 0, .int .u32 0, .int .u32 0, .int .u32 0, .int .u32 0, .int .u32 0, .int .u32 0, .int .u32 0, .int .u32 0, .int .u32 0, .int .u32 0, .int .u32 0, .int .u32 0, .int .u32 0, .int .u32 0, .int .u32 0, .int .u32 0, .int .u32 0, .int .u32 0, .int .u32 0, .int .u32 0, .int .u32 0, .int .u32 0, .int .u32 0, .int .u32 0, .int .u32 0, .int .u32 0, .int .u32 0, .int .u32 0, .int .u32 0, .int .u32 0, .int .u32 0, .int .u32 0, .int .u32 0, .int .u32 0, .int .u32 0, .int .u32 0, .int .u32 0, .int .u32 0, .int .u32 0, .int .u32 0, .int .u32 0, .int .u32 0]
theorem zplan_eq : (planCells []).toArray = zplan := by kernel_rfl

theorem sgA_num (x : Nat) (hx : x < 4294967296) : bits .xor .u32 (bits .xor .u32 ((rotr 7 x : Nat) : Int) ((rotr 18 x : Nat) : Int)) ((x : Int) / 8) = ((sgA x : Nat) : Int) := by
  have h1 := rotr_lt 7 x (by omega) hx
  have h2 := rotr_lt 18 x (by omega) hx
  have e : (x : Int) / 8 = ((x / 8 : Nat) : Int) := by simp
  rw [e, u32_xor_nat _ _ h1 h2, u32_xor_nat _ _ (xor_lt h1 h2) (by omega)]
  rfl
theorem sgB_num (x : Nat) (hx : x < 4294967296) : bits .xor .u32 (bits .xor .u32 ((rotr 17 x : Nat) : Int) ((rotr 19 x : Nat) : Int)) ((x : Int) / 1024) = ((sgB x : Nat) : Int) := by
  have h1 := rotr_lt 17 x (by omega) hx
  have h2 := rotr_lt 19 x (by omega) hx
  have e : (x : Int) / 1024 = ((x / 1024 : Nat) : Int) := by simp
  rw [e, u32_xor_nat _ _ h1 h2, u32_xor_nat _ _ (xor_lt h1 h2) (by omega)]
  rfl

theorem info74 : (Tryd.prog.info? 155).map (·.size) = some 64 := by kernel_rfl

set_option maxRecDepth 100000 in
set_option maxHeartbeats 2000000 in
theorem spread_any (bs : List Nat) (w : World) (HL : Hid (bs.length = 64)) (HB : Hid (∀ x ∈ bs, x < 256)) :
    Calls Tryd.prog 75 #[.agg (w8 bs).toArray] w fun e w' => e = .returned (.agg (w32 (sched bs 64)).toArray) ∧ Below w.heap.size w w' := by
  go_enter Tryd.func75, Tryd.ntmps75
  go_wp2_with fail
  go_loopw [11] (fun i wr => ∃ (k : Nat), k ≤ 16 ∧ i = .int .i64 k ∧ Hid (Blk wr w.heap.size 141 (w8 bs)) ∧ Hid (Blk wr (w.heap.size + 1) 155 (planCells [])) ∧ Hid (Blk wr (w.heap.size + 1 + 1) 155 (planCells (sched bs k))) ∧ Hid (Below w.heap.size w wr)) (fun i _ => 16 - (intOf i).toNat)
  case atStart =>
    refine ⟨0, Nat.zero_le _, rfl, Lib.hid ?_, Lib.hid ?_, Lib.hid ?_, Lib.hid ?_⟩
    · exact ((Blk.new w 141 (w8 bs)).alloc _).alloc _
    · have h := (Blk.new (w.alloc (.cells (w8 bs).toArray 141)) 155 (planCells [])).alloc (.cells (planCells []).toArray 155)
      rw [zplan_eq] at h
      simp only [World.size_alloc] at h
      exact h
    · have h := Blk.new ((w.alloc (.cells (w8 bs).toArray 141)).alloc (.cells (planCells []).toArray 155)) 155 (planCells [])
      rw [zplan_eq] at h
      simp only [World.size_alloc] at h
      exact h
    · exact (((Below.refl _ _).alloc (Nat.le_refl _) _).alloc (by simp) _).alloc (by simp; omega) _
  case round =>
    obtain ⟨k, hk, rfl, H0, H1, H2, HW⟩ := hrel
    by_cases hlt : k < 16
    · have c0 := H0.out.cell (4 * k)
      have c1 := H0.out.cell (4 * k + 1)
      have c2 := H0.out.cell (4 * k + 2)
      have c3 := H0.out.cell (4 * k + 3)
      rw [w8_get bs _ (by rw [HL.out]; omega)] at c0 c1 c2 c3
      obtain ⟨x0, e0⟩ : ∃ x, bs.getD (4 * k) 0 = x := ⟨_, rfl⟩
      obtain ⟨x1, e1⟩ : ∃ x, bs.getD (4 * k + 1) 0 = x := ⟨_, rfl⟩
      obtain ⟨x2, e2⟩ : ∃ x, bs.getD (4 * k + 2) 0 = x := ⟨_, rfl⟩
      obtain ⟨x3, e3⟩ : ∃ x, bs.getD (4 * k + 3) 0 = x := ⟨_, rfl⟩
      have l0 := getD_lt (by omega) HB.out (4 * k)
      have l1 := getD_lt (by omega) HB.out (4 * k + 1)
      have l2 := getD_lt (by omega) HB.out (4 * k + 2)
      have l3 := getD_lt (by omega) HB.out (4 * k + 3)
      rw [e0] at c0 l0
      rw [e1] at c1 l1
      rw [e2] at c2 l2
      rw [e3] at c3 l3
      have HE : Hid (sched bs (k + 1) = sched bs k ++ [x0 * 16777216 + x1 * 65536 + x2 * 256 + x3]) := Lib.hid (by
        simp only [sched, nextW, if_pos hlt, word, e0, e1, e2, e3])
      have HN := Lib.hid (word_num x0 x1 x2 x3 l0 l1 l2 l3)
      have i0 : (4 : Int) * (k : Int) ≤ 60 := by omega
      have i1 : (0 : Int) ≤ (k : Int) := by omega
      have i2 : (k : Int) < 16 := by omega
      have hf := H2.out.frozen k
      have hc := H2.out.cell k
      rw [plan_next _ k (sched_length bs k) (by omega)] at hc
      clear e0 e1 e2 e3
      go_wp2_with fail
      go_region
      go_wp2
      go_roundw
      case rel =>
        refine ⟨k + 1, by omega, by go_num, Lib.hid ?_, Lib.hid ?_, Lib.hid ?_, Lib.hid ?_⟩
        · exact H0.out.far (by simp; omega) _
        · exact H1.out.far (by simp) _
        · rw [HN.out]
          have h := H2.out.set_ k (.int .u32 ((x0 * 16777216 + x1 * 65536 + x2 * 256 + x3 : Nat) : Int))
          rw [plan_set _ k _ (sched_length bs k) (by omega), ← HE.out] at h
          exact h
        · exact (HW.out.setCell (by simp; omega) _).drew
      case measure => simp [intOf]; omega
    · obtain rfl : k = 16 := by omega
      rw [show ((16 : Nat) : Int) = 16 from rfl]
      go_wp2_with fail
      go_loopw [6] (fun i wq => ∃ (j : Nat), j ≤ 48 ∧ i = .int .i64 ((j : Int) + 16) ∧ Hid (Blk wq (w.heap.size + 1) 155 (planCells [])) ∧ Hid (Blk wq (w.heap.size + 1 + 1) 155 (planCells (sched bs (j + 16)))) ∧ Hid (Below w.heap.size w wq)) (fun i _ => 64 - (intOf i).toNat)
      case atStart => exact ⟨0, Nat.zero_le _, rfl, H1, H2, HW⟩
      case round =>
        obtain ⟨j, hj, rfl, H1', H2', HW'⟩ := hrel
        by_cases hlt2 : j < 48
        · have c0 := H2'.out.cell j
          have c1 := H2'.out.cell (j + 1)
          have c2 := H2'.out.cell (j + 9)
          have c3 := H2'.out.cell (j + 14)
          have hsl := sched_length bs (j + 16)
          rw [plan_get _ _ (by omega)] at c0 c1 c2 c3
          have hsb := sched_lt bs HB.out (j + 16)
          obtain ⟨x0, e0⟩ : ∃ x, (sched bs (j + 16)).getD j 0 = x := ⟨_, rfl⟩
          obtain ⟨x1, e1⟩ : ∃ x, (sched bs (j + 16)).getD (j + 1) 0 = x := ⟨_, rfl⟩
          obtain ⟨x2, e2⟩ : ∃ x, (sched bs (j + 16)).getD (j + 9) 0 = x := ⟨_, rfl⟩
          obtain ⟨x3, e3⟩ : ∃ x, (sched bs (j + 16)).getD (j + 14) 0 = x := ⟨_, rfl⟩
          have l0 := getD_lt (by omega) hsb j
          have l1 := getD_lt (by omega) hsb (j + 1)
          have l2 := getD_lt (by omega) hsb (j + 9)
          have l3 := getD_lt (by omega) hsb (j + 14)
          rw [e0] at c0 l0
          rw [e1] at c1 l1
          rw [e2] at c2 l2
          rw [e3] at c3 l3
          have HE : Hid (sched bs (j + 16 + 1) = sched bs (j + 16) ++ [(x0 + sgA x1 + x2 + sgB x3) % 4294967296]) := Lib.hid (by
            show sched bs (j + 16) ++ [nextW bs (sched bs (j + 16)) (j + 16)] = _
            rw [nextW, if_neg (by omega), more, show j + 16 - 16 = j by omega, show j + 16 - 15 = j + 1 by omega, show j + 16 - 7 = j + 9 by omega, show j + 16 - 2 = j + 14 by omega, e0, e1, e2, e3])
          have i0 : (0 : Int) ≤ (j : Int) := by omega
          have i1 : (j : Int) < 48 := by omega
          have hf := H2'.out.frozen (j + 16)
          have hc := H2'.out.cell (j + 16)
          rw [plan_next _ (j + 16) hsl (by omega)] at hc
          clear e0 e1 e2 e3 hsl hsb
          go_wp2_with fail
          go_quiet (fail)
          go_wp2_with fail
          ((with_reducible refine (turn7 x1 _ l1).mono ?_))
          rintro e w' ⟨rfl, rfl⟩
          go_wp2_with fail
          ((with_reducible refine (turn18 x1 _ l1).mono ?_))
          rintro e w' ⟨rfl, rfl⟩
          go_wp2_with fail
          ((with_reducible refine (turn17 x3 _ l3).mono ?_))
          rintro e w' ⟨rfl, rfl⟩
          go_wp2_with fail
          ((with_reducible refine (turn19 x3 _ l3).mono ?_))
          rintro e w' ⟨rfl, rfl⟩
          go_wp2_with fail
          go_region
          go_wp2
          go_roundw
          case rel =>
            refine ⟨j + 1, by omega, by go_num, Lib.hid ?_, Lib.hid ?_, Lib.hid ?_⟩
            · exact (H1'.out.drewN _).far (by simp) _
            · rw [sgA_num x1 l1, sgB_num x3 l3]
              have h := (H2'.out.drewN (nq + 1)).set_ (j + 16) (.int .u32 (((x0 + sgA x1 + x2 + sgB x3) % 4294967296 : Nat) : Int))
              rw [plan_set _ (j + 16) _ (sched_length bs (j + 16)) (by omega), ← HE.out, show j + 16 + 1 = j + 1 + 16 by omega] at h
              simp only [Int.natCast_emod, Int.natCast_add] at h
              exact h
            · exact (below_drewN HW'.out _).setCell (by show w.heap.size ≤ w.heap.size + 1 + 1; omega) _
          case measure => simp [intOf]; omega
        · obtain rfl : j = 48 := by omega
          have HS := Lib.hid (plan_whole (sched bs 64) (sched_length bs 64))
          have H3 : Hid (Blk wr (w.heap.size + 1 + 1) 155 (w32 (sched bs 64))) := Lib.hid (by rw [← HS.out]; exact H2'.out)
          have HR := Lib.hid H3.out.all
          have HI : Hid ((Tryd.prog.info? 155).map (·.size) = some (w32 (sched bs 64)).length) := Lib.hid (by rw [w32_length, sched_length]; exact info74)
          have HI2 : Hid ((Tryd.prog.info? 155).map (·.size) = some (w32 (sched bs 64)).toArray.size) := Lib.hid (by rw [List.size_toArray, w32_length, sched_length]; exact info74)
          have HZ : Hid ((planCells []).toArray.size = (w32 (sched bs 64)).toArray.size) := Lib.hid (by simp [w32_length, sched_length, planCells])
          have HO := Lib.hid (all_oneCell_toArray (w32_one (sched bs 64)))
          clear HS
          go_wp2_with (first | (refine wpList_load_mid rfl 155 (.tmp 3) rfl (w.heap.size + 1 + 1) 0 rfl (w32 (sched bs 64)) _ HR.out Tryd.underlying155 rfl HI.out ?_) | (refine wpList_store_row rfl 155 (.tmp 2) (.tmp 87) rfl (w.heap.size + 1) (w32 (sched bs 64)).toArray rfl rfl 155 _ H1'.out HI2.out HZ.out HO.out ?_))
          exact bodyPost_ret (v := .agg (w32 (sched bs 64)).toArray) (results_cell_row Tryd.results75 _ _ (w.heap.size + 1) 155 (w32 (sched bs 64)).toArray (0, 0) _ rfl (H1'.out.setRow _) Tryd.underlying155 rfl HI2.out) rfl ⟨rfl, below_setRow HW'.out (by omega) _⟩
end Go.Proofs.YtbdjlnejlkiijaaDoorRRR
