/-
  lamp's leaves and signatures: pairs.leaf (function 67), Leaf (22), Sign (25), From (28): what they answer; nothing that was there is written.
-/
import Derived.Test.YtkonokjhpddbfaaDoorLampB
namespace Go.Proofs.YtkonokjhpddbfaaDoor
open Go.RowKit
set_option linter.unusedVariables false

/-- A part of a row of bytes in a block, read as a slice. -/
theorem Src.mid {w : World} {b g : Nat} {t : TypeId} {S : List Nat} (h : Blk w g t (w8 S)) (hb : g ≠ b) (hl : ∀ x ∈ S, x < 256) (o n : Nat) (hn : o + n ≤ S.length) : Src w b (some ⟨g, o, none⟩) n ((S.drop o).take n) := by
  have e : ((S.drop o).take n).length = n := by simp; omega
  refine ⟨by omega, .inr ⟨g, o, rfl, h.lt, hb, fun i hi => ?_⟩, fun x hx => hl x (List.mem_of_mem_drop (List.mem_of_mem_take hx))⟩
  rw [e] at hi
  rw [h.cell, w8_get S (o + i) (by omega)]
  simp only [List.getD, List.getElem?_take, hi, if_true, List.getElem?_drop]
theorem pcs_two (T : List Nat) (k : Nat) : (T.take (k * 32) ++ (T.drop (k * 32)).take 16) ++ (T.drop (k * 32 + 16)).take 16 = T.take ((k + 1) * 32) := by
  rw [show (k + 1) * 32 = k * 32 + (16 + 16) by omega, List.take_add, List.take_add, List.drop_drop, List.append_assoc]

set_option maxRecDepth 100000 in
set_option maxHeartbeats 4000000 in
theorem pleaf_any (T : List Nat) (w : World) (HT : Hid (Tab w)) (HL : Hid (T.length = 1024)) (HP : Hid (∀ x ∈ T, x < 256)) :
    Calls Tryd.prog 67 #[.agg (w8 T).toArray] w fun e w' => e = .returned (.agg (w8 (sha (text 2 [T]))).toArray) ∧ Below w.heap.size w w' := by
  go_enter Tryd.func67, Tryd.ntmps67
  go_upto_region 1 with fail
  have HA : Hid (Blk ((w.alloc (.cells (w8 T).toArray 122)).alloc (.cells zsum 36)) w.heap.size 122 (w8 T)) := Lib.hid (by
    have h := (Blk.new w 122 (w8 T)).alloc (.cells zsum 36)
    exact h)
  have HB : Hid (Blk ((w.alloc (.cells (w8 T).toArray 122)).alloc (.cells zsum 36)) (w.heap.size + 1) 36 (w8 (List.replicate 32 0))) := Lib.hid (by
    have h := Blk.new (w.alloc (.cells (w8 T).toArray 122)) 36 (w8 (List.replicate 32 0))
    rw [zsum_eq, World.size_alloc] at h
    exact h)
  have HW : Hid (Below w.heap.size w ((w.alloc (.cells (w8 T).toArray 122)).alloc (.cells zsum 36))) := Lib.hid (((Below.refl _ _).alloc (Nat.le_refl _) _).alloc (by simp) _)
  unfold zsum at HA HB HW
  generalize ((w.alloc (.cells (w8 T).toArray 122)).alloc (.cells _ 36)) = V at HA HB HW ⊢
  have hV : w.heap.size + 1 < V.heap.size := HB.out.lt
  go_wp2_with fail
  go_loopw [6, 3, 4, 5] (fun i t _ _ wr => ∃ (k : Nat), k ≤ 32 ∧ i = .int .i64 k ∧ Hid (Own wr V.heap.size t (T.take (k * 32))) ∧ Hid (Below V.heap.size V wr)) (fun i _ _ _ _ => 32 - (intOf i).toNat)
  case atStart => exact ⟨0, Nat.zero_le _, rfl, Lib.hid (by rw [Nat.zero_mul, List.take_zero]; exact Own.nil _ _), Lib.hid (Below.refl _ _)⟩
  case round =>
    obtain ⟨k, hk, rfl, HO, HW2⟩ := hrel
    by_cases hlt : k < 32
    · have k1 : (k : Int) < 32 := by omega
      have hw2 : V.heap.size ≤ wr.heap.size := HW2.out.size
      have HAR := Lib.hid (HA.out.below HW2.out (by omega))
      have HS0 : Hid (Src wr V.heap.size (some ⟨w.heap.size, k * 32, none⟩) 16 ((T.drop (k * 32)).take 16)) := Lib.hid (Src.mid HAR.out (by omega) HP.out (k * 32) 16 (by rw [HL.out]; omega))
      have HN0 : Hid (16 = ((T.drop (k * 32)).take 16).length) := Lib.hid (by rw [List.length_take, List.length_drop, HL.out]; omega)
      have HM0 : Hid ((T.take (k * 32)).length + ((T.drop (k * 32)).take 16).length ≤ 140737488355328) := Lib.hid (by rw [List.length_take, List.length_take, List.length_drop, HL.out]; omega)
      go_wp2_with fail
      refine wp_loop_rounds 3 ?_
      rw [rounds_succ]
      go_wp2_with (at_builtin; refine wpList_app rfl (.tmp 12) (.tmp 17) rfl V.heap.size V.heap.size _ _ ((T.drop (k * 32)).take 16) rfl HO.out (some ⟨w.heap.size, k * 32, none⟩) 16 16 rfl HN0.out HS0.out HM0.out HW2.out.size ?_)
      intro v3 w3 HO3 HG3 HL3
      have HW3 : Hid (Below V.heap.size V w3) := Lib.hid (HW2.out.grown HG3.out HW2.out.size fun g' hg' => (HO.out.base_ hg').1)
      have HAR3 := Lib.hid (HA.out.below HW3.out (by omega))
      have HS1 : Hid (Src w3 V.heap.size (some ⟨w.heap.size, k * 32 + 16, none⟩) 16 ((T.drop (k * 32 + 16)).take 16)) := Lib.hid (Src.mid HAR3.out (by omega) HP.out (k * 32 + 16) 16 (by rw [HL.out]; omega))
      have HN1 : Hid (16 = ((T.drop (k * 32 + 16)).take 16).length) := Lib.hid (by rw [List.length_take, List.length_drop, HL.out]; omega)
      have HM1 : Hid ((T.take (k * 32) ++ (T.drop (k * 32)).take 16).length + ((T.drop (k * 32 + 16)).take 16).length ≤ 140737488355328) := Lib.hid (by rw [List.length_append, List.length_take, List.length_take, List.length_take, List.length_drop, List.length_drop, HL.out]; omega)
      clear HG3 HL3
      go_wp2_with fail
      rw [rounds_succ]
      go_wp2_with (at_builtin; refine wpList_app rfl (.tmp 12) (.tmp 17) rfl V.heap.size V.heap.size _ _ ((T.drop (k * 32 + 16)).take 16) rfl HO3.out (some ⟨w.heap.size, k * 32 + 16, none⟩) 16 16 rfl HN1.out HS1.out HM1.out HW3.out.size ?_)
      intro v4 w4 HO4 HG4 HL4
      have HW4 : Hid (Below V.heap.size V w4) := Lib.hid (HW3.out.grown HG4.out HW3.out.size fun g' hg' => (HO3.out.base_ hg').1)
      have HO5 : Hid (Own w4 V.heap.size v4 (T.take ((k + 1) * 32))) := Lib.hid (by rw [← pcs_two, List.append_assoc]; exact HO4.out)
      clear HG4 HL4 HO4 HO3 HO
      go_wp2_with fail
      rw [rounds_succ]
      go_wp2
      go_roundw
      case rel => exact ⟨k + 1, by omega, by go_num, HO5, HW4⟩
      case measure => simp [intOf]; omega
    · obtain rfl : k = 32 := by omega
      have htk : T.take (32 * 32) = T := List.take_of_length_le (by rw [HL.out]; omega)
      rw [htk] at HO
      clear htk
      obtain ⟨A5, c5, hv5, hc5, hs5⟩ := HO.out.srcB (b := wr.heap.size + 1) (by omega) HP.out
      rw [HL.out] at hv5
      subst hv5
      have HS5 := Lib.hid hs5
      have hw2 : V.heap.size ≤ wr.heap.size := HW2.out.size
      clear hs5
      go_wp2_with fail
      have HC : Hid (Blk (wr.alloc (.cells #[.slice A5 1024 c5] 30)) wr.heap.size 30 ([.slice A5 1024 c5])) := Lib.hid (by
        have h := Blk.new wr 30 ([.slice A5 1024 c5])
        exact h)
      have HV1 : Hid (Below wr.heap.size wr (wr.alloc (.cells #[.slice A5 1024 c5] 30))) := Lib.hid ((Below.refl _ _).alloc (Nat.le_refl _) _)
      generalize (wr.alloc (.cells #[.slice A5 1024 c5] 30)) = V1 at HC HV1 ⊢
      have HW1 := Lib.hid (HW.out.trans ((HW2.out.trans (HV1.out.mono hw2)).mono (by omega)))
      have HP1 := Lib.hid (Parts.one (b := wr.heap.size + 1) (x := T) HC.out HL.out.symm (by omega) hc5 (HS5.out.below HV1.out))
      have HB1 := Lib.hid ((HB.out.below HW2.out (by omega)).below HV1.out (by omega))
      refine (for_any 2 1 1 _ _ [T] V1 (Lib.hid (HT.out.below HW1.out HT.out.lt)) (by omega) HP1 (Lib.hid rfl) (by omega) (Lib.hid (by simp [HL.out]))).mono ?_
      rintro e V2 ⟨rfl, hB2⟩
      have HW3 := Lib.hid (HW1.out.trans (hB2.mono HW1.out.size))
      have HB3 := Lib.hid (HB1.out.below hB2 HB1.out.lt)
      clear hB2
      have HS6 : Hid ((Tryd.prog.info? 36).map (·.size) = some (w8 (sha (text 2 [T]))).toArray.size) := Lib.hid (by rw [List.size_toArray, w8_length, sha_length]; exact info36)
      have HZ6 : Hid ((w8 (List.replicate 32 0)).toArray.size = (w8 (sha (text 2 [T]))).toArray.size) := Lib.hid (by rw [List.size_toArray, List.size_toArray, w8_length, w8_length, sha_length]; simp)
      have HO6 := Lib.hid (all_oneCell_toArray (w8_one (sha (text 2 [T]))))
      go_wp2_with (first | (refine wpList_store_row rfl 36 (.tmp 2) (.tmp 23) rfl (w.heap.size + 1) (w8 (sha (text 2 [T]))).toArray rfl rfl 36 _ HB3.out HS6.out HZ6.out HO6.out ?_))
      exact bodyPost_ret (v := .agg (w8 (sha (text 2 [T]))).toArray) (results_cell_row Tryd.results67 _ _ (w.heap.size + 1) 36 (w8 (sha (text 2 [T]))).toArray (0, 0) _ rfl (HB3.out.setRow _) Tryd.underlying36 rfl HS6.out) rfl ⟨rfl, below_setRow HW3.out (by omega) _⟩

/-- A call at a step of a region that draws its order. -/
theorem step_call {ops : Array Oper} {o : Oper} {a : Act} {w : World} {K : Act → World → Prop} {Q : Exit → Act → World → Prop} {E : Prop} (hw : Region.wanted o (yielded ops a.tmps) = true) (f : FuncId) (args : Array Operand) (tys : Array TypeId)
    (ho : o.op = .call { callee := .value (.func f), args := args, argTypes := tys }) (vs : Array Value) (hv : args.map a.eval = vs) {R : Ending → World → Prop} (hf : (callFunc f vs).run Tryd.prog w = .ok (.enter f vs) w) (hc : Calls Tryd.prog f vs w R)
    (hR : ∀ e w', R e w' → ∃ v, e = .returned v ∧ K (a.put o.dst v) w') :
    if Region.wanted o (yielded ops a.tmps) = true then Oper.wp Tryd.prog o a w K Q else E := by
  rw [if_pos hw]
  have e : (execOp a.eval o).run Tryd.prog w = .ok (.enter f vs) w := by
    unfold execOp
    simp only [ho]
    go_simp
    first | done | (rw [hv]; exact hf)
  unfold Oper.wp
  rw [e, Oper.upon_enter]
  refine hc.mono ?_
  intro e w' hr
  obtain ⟨v, rfl, hv⟩ := hR e w' hr
  exact hv
theorem step_store_mid {ops : Array Oper} {o : Oper} {a : Act} {w : World} {K : Act → World → Prop} {Q : Exit → Act → World → Prop} {E : Prop} (hw : Region.wanted o (yielded ops a.tmps) = true) (ty : TypeId) (x y : Operand) (ho : o.op = .store ty x y)
    (b off : Nat) (vs : List Value) (hx : a.eval x = .pointer (some ⟨b, off, none⟩)) (hy : a.eval y = .agg vs.toArray) (ht : w.there b off vs.length) (hi : (Tryd.prog.info? ty).map (·.size) = some vs.length) (h1 : ∀ v ∈ vs, v.oneCell' = true)
    (h : K (a.put o.dst undef) (w.setCells b off vs)) : if Region.wanted o (yielded ops a.tmps) = true then Oper.wp Tryd.prog o a w K Q else E := by
  rw [if_pos hw]
  exact wp_store_mid ty x y ho b off vs.toArray hx hy (by simpa using ht) (by simpa using hi) (all_oneCell_toArray h1) h
theorem wpList_put_mid {ops : Array Oper} {rest : List Oper} {op : Oper} {a : Act} {w : World} {Q : Exit → Act → World → Prop} (hgd : op.guard = none) (ty : TypeId) (x y : Operand) (ho : op.op = .store ty x y)
    (b o : Nat) (vs : List Value) (hx : a.eval x = .pointer (some ⟨b, o, none⟩)) (hy : a.eval y = .agg vs.toArray)
    (ht : w.there b o vs.length) (hi : (Tryd.prog.info? ty).map (·.size) = some vs.length) (h1 : ∀ v ∈ vs, v.oneCell' = true)
    (h : wpList Tryd.prog ops Q rest (a.put op.dst undef) (w.setCells b o vs)) : wpList Tryd.prog ops Q (op :: rest) a w :=
  wpList_store_mid hgd ty x y ho b o vs.toArray hx hy (by simpa using ht) (by simpa using hi) (all_oneCell_toArray h1) h
theorem Blk.setMid {g : Nat} {t : TypeId} (post : List Value) : ∀ (vs : List Value) (w : World) (pre old : List Value), old.length = vs.length → Blk w g t (pre ++ (old ++ post)) → Blk (w.setCells g pre.length vs) g t (pre ++ (vs ++ post))
  | [], w, pre, old, hl, h => by
    have : old = [] := List.eq_nil_of_length_eq_zero (by simpa using hl)
    subst this
    exact h
  | v :: r, w, pre, [], hl, h => by simp at hl
  | v :: r, w, pre, x :: old, hl, h => by
    have h1 := h.set_ pre.length v
    rw [List.set_append_right _ _ (Nat.le_refl _), Nat.sub_self, List.cons_append, List.set_cons_zero] at h1
    have h2 := Blk.setMid post r (w.setCell ⟨g, pre.length, none⟩ v) (pre ++ [v]) old (by simpa using hl) (by simpa using h1)
    simp only [List.length_append, List.length_cons, List.length_nil, List.append_assoc, List.cons_append, List.nil_append] at h2
    exact h2
theorem Blk.put8 {w : World} {g : Nat} {t : TypeId} (pre old post x : List Nat) (h : Blk w g t (w8 (pre ++ (old ++ post)))) (hl : old.length = x.length) (o : Nat) (ho : pre.length = o) : Blk (w.setCells g o (w8 x)) g t (w8 (pre ++ (x ++ post))) := by
  rw [← w8_append, ← w8_append] at h ⊢
  have e := Blk.setMid (w8 post) (w8 x) w (w8 pre) (w8 old) (by rw [w8_length, w8_length, hl]) h
  rw [w8_length, ho] at e
  exact e
theorem Blk.farCells {w : World} {g b o : Nat} {t : TypeId} {cs : List Value} (h : Blk w g t cs) (hb : g ≠ b) : ∀ (vs : List Value), Blk (w.setCells b o vs) g t cs := by
  intro vs
  induction vs generalizing w o with
  | nil => exact h
  | cons v r ih => exact ih (w := w.setCell ⟨b, o, none⟩ v) (o := o + 1) (h.far hb v)
theorem below_cells {B g : Nat} {w0 : World} : ∀ (vs : List Value) (o : Nat) (w : World), Below B w0 w → B ≤ g → Below B w0 (w.setCells g o vs)
  | [], _, _, h, _ => h
  | v :: r, o, w, h, hg => below_cells r (o + 1) _ (h.setCell (p := ⟨g, o, none⟩) hg v) hg
theorem size_cells {g : Nat} : ∀ (vs : List Value) (o : Nat) (w : World), (w.setCells g o vs).heap.size = w.heap.size
  | [], _, _ => rfl
  | v :: r, o, w => (size_cells r (o + 1) _).trans (by simp [World.setCell])
theorem zc122 : (w8 (List.replicate 1024 0)).toArray = Tryd.zeroCells122 := by kernel_rfl
theorem zc56 : (w8 (List.replicate 1024 0)).toArray = Tryd.zeroCells56 := by kernel_rfl
theorem info122 : (Tryd.prog.info? 122).map (·.size) = some 1024 := by kernel_rfl
theorem info56 : (Tryd.prog.info? 56).map (·.size) = some 1024 := by kernel_rfl
theorem zeros_cut (n m : Nat) (h : m ≤ n) : List.replicate n 0 = List.replicate m 0 ++ List.replicate (n - m) 0 := by rw [List.replicate_append_replicate]; congr 1; omega

/-- The pairs so far. -/
def pairC (f : Nat → List Nat) (k : Nat) : List Nat := rows f k ++ List.replicate (1024 - 32 * k) 0
theorem pairC_open (f : Nat → List Nat) (k : Nat) (hk : k < 32) : pairC f k = rows f k ++ (List.replicate 16 0 ++ (List.replicate 16 0 ++ List.replicate (1024 - 32 * (k + 1)) 0)) := by
  unfold pairC
  rw [zeros_cut (1024 - 32 * k) 16 (by omega), zeros_cut (1024 - 32 * k - 16) 16 (by omega), show 1024 - 32 * k - 16 - 16 = 1024 - 32 * (k + 1) by omega]
theorem pairC_shut (f : Nat → List Nat) (k : Nat) (x y : List Nat) (h : f k = x ++ y) : rows f k ++ (x ++ (y ++ List.replicate (1024 - 32 * (k + 1)) 0)) = pairC f (k + 1) := by
  unfold pairC
  rw [rows_succ, h]
  simp
theorem pairC_end (f : Nat → List Nat) : pairC f 32 = rows f 32 := by simp [pairC]

set_option maxRecDepth 100000 in
set_option maxHeartbeats 1000000 in
theorem leaf_any (seed : List Nat) (n : Nat) (w : World) (HT : Hid (Tab w)) (HL : Hid (seed.length = 32)) (HP : Hid (∀ x ∈ seed, x < 256)) (hn : n < 4294967296) :
    Calls Tryd.prog 22 #[.agg (keyC seed n).toArray] w fun e w' => e = .returned (.agg (w8 (leafN seed n)).toArray) ∧ Below w.heap.size w w' := by
  have HKS : Hid ((Tryd.prog.info? 43).map (·.size) = some (keyC seed n).length) := Lib.hid (by rw [keyC_length _ _ HL.out]; exact info43)
  go_enter Tryd.func22, Tryd.ntmps22
  go_upto_region 2 with fail
  have HA : Hid (Blk (((w.alloc (.cells (keyC seed n).toArray 43)).alloc (.cells zsum 36)).alloc (.cells Tryd.zeroCells122 122)) w.heap.size 43 (keyC seed n)) := Lib.hid (by
    have h := ((Blk.new w 43 (keyC seed n)).alloc (.cells zsum 36)).alloc (.cells Tryd.zeroCells122 122)
    exact h)
  have HB : Hid (Blk (((w.alloc (.cells (keyC seed n).toArray 43)).alloc (.cells zsum 36)).alloc (.cells Tryd.zeroCells122 122)) (w.heap.size + 1) 36 (w8 (List.replicate 32 0))) := Lib.hid (by
    have h := (Blk.new (w.alloc (.cells (keyC seed n).toArray 43)) 36 (w8 (List.replicate 32 0))).alloc (.cells Tryd.zeroCells122 122)
    rw [zsum_eq, World.size_alloc] at h
    exact h)
  have HC : Hid (Blk (((w.alloc (.cells (keyC seed n).toArray 43)).alloc (.cells zsum 36)).alloc (.cells Tryd.zeroCells122 122)) (w.heap.size + 1 + 1) 122 (w8 (List.replicate 1024 0))) := Lib.hid (by
    have h := Blk.new ((w.alloc (.cells (keyC seed n).toArray 43)).alloc (.cells zsum 36)) 122 (w8 (List.replicate 1024 0))
    rw [zc122, World.size_alloc, World.size_alloc] at h
    exact h)
  have HW : Hid (Below w.heap.size w (((w.alloc (.cells (keyC seed n).toArray 43)).alloc (.cells zsum 36)).alloc (.cells Tryd.zeroCells122 122))) := Lib.hid ((((Below.refl _ _).alloc (Nat.le_refl _) _).alloc (by simp) _).alloc (by simp; omega) _)
  unfold zsum at HA HB HC HW
  generalize (((w.alloc (.cells (keyC seed n).toArray 43)).alloc (.cells _ 36)).alloc (.cells Tryd.zeroCells122 122)) = V at HA HB HC HW ⊢
  have hV : w.heap.size + 1 + 1 < V.heap.size := HC.out.lt
  obtain ⟨f, hf⟩ : ∃ f : Nat → List Nat, f = fun a => covN (secN seed n a 0) ++ covN (secN seed n a 1) := ⟨_, rfl⟩
  have HF : Hid (∀ a, f a = covN (secN seed n a 0) ++ covN (secN seed n a 1)) := Lib.hid fun a => by rw [hf]
  have HFL : Hid (∀ a, (f a).length = 32) := Lib.hid fun a => by rw [hf]; simp [covN_length]
  have HFR : Hid (leafN seed n = sha (text 2 [rows f 32])) := Lib.hid (by unfold leafN leafT; rw [hf])
  clear hf
  have HI : Hid (∀ a v : Nat, a < 32 → v < 2 → ∀ X : World, Below w.heap.size w X → Calls Tryd.prog 66 #[.agg (keyC seed n).toArray, .int .i64 (a : Int), .int .i64 (v : Int)] X fun e w' => e = .returned (.agg (w8 (secN seed n a v)).toArray) ∧ Below X.heap.size X w') := Lib.hid fun a v ha hv X hX => secret_any seed n a v X (Lib.hid (HT.out.below hX HT.out.lt)) HL HP hn ha hv
  have HI2 : Hid (∀ a v : Nat, ∀ X : World, Below w.heap.size w X → Calls Tryd.prog 65 #[.agg (w8 (secN seed n a v)).toArray] X fun e w' => e = .returned (.agg (w8 (covN (secN seed n a v))).toArray) ∧ Below X.heap.size X w') := Lib.hid fun a v X hX => knownBy_any _ X (Lib.hid (HT.out.below hX HT.out.lt)) (Lib.hid (secN_length _ _ _ _)) (Lib.hid (secN_lt _ _ _ _))
  go_wp2_with fail
  go_loopw [6, 4, 5] (fun i _ _ wr => ∃ (k : Nat), k ≤ 32 ∧ i = .int .i64 k ∧ Hid (Blk wr w.heap.size 43 (keyC seed n)) ∧ Hid (Blk wr (w.heap.size + 1) 36 (w8 (List.replicate 32 0))) ∧ Hid (Blk wr (w.heap.size + 1 + 1) 122 (w8 (pairC f k))) ∧ Hid (Below w.heap.size w wr)) (fun i _ _ _ => 32 - (intOf i).toNat)
  case atStart => exact ⟨0, Nat.zero_le _, rfl, HA, HB, HC, HW⟩
  case round =>
    clear HA HB HC HW hV
    obtain ⟨k, hk, rfl, HA, HB, HC, HW⟩ := hrel
    by_cases hlt : k < 32
    · have k1 : (k : Int) < 32 := by omega
      have HC0 : Hid (Blk wr (w.heap.size + 1 + 1) 122 (w8 (rows f k ++ (List.replicate 16 0 ++ (List.replicate 16 0 ++ List.replicate (1024 - 32 * (k + 1)) 0))))) := Lib.hid (by rw [← pairC_open f k hlt]; exact HC.out)
      have HRL : Hid ((rows f k).length = 32 * k) := Lib.hid (rows_length HFL.out k)
      clear HC
      go_wp2_with fail
      refine wp_loop_rounds 3 ?_
      rw [rounds_succ]
      go_upto_region 8 with fail
      refine wp_region_held_drew (S := fun w' => Blk w' w.heap.size 43 (keyC seed n)) (by kernel_rfl) (HA.out.drewN 1) (fun hHeld => ?_)
      have HSX0a := Lib.hid hHeld
      refine wpAnyH_take (i := 0) (v := .int .i64 (k : Int)) rfl (by kernel_rfl) (by kernel_rfl) (by kernel_rfl) (fun _ _ _ h => h) (Or.inl ⟨by rfl, fun w _ => by rfl⟩) hHeld ?_
      show wpAnyH _ _ _ _ _ _ _ (Act.put _ (some 12) _) _
      simp only [Act.put, List.setIfInBounds_toArray, List.set_cons_zero, List.set_cons_succ]
      refine wpAnyH_take (i := 1) (v := .int .i64 0) rfl (by kernel_rfl) (by kernel_rfl) (by kernel_rfl) (fun _ _ _ h => h) (Or.inl ⟨by rfl, fun w _ => by rfl⟩) hHeld ?_
      show wpAnyH _ _ _ _ _ _ _ (Act.put _ (some 13) _) _
      simp only [Act.put, List.setIfInBounds_toArray, List.set_cons_zero, List.set_cons_succ]
      refine wpAnyH_take (i := 2) (v := .agg (keyC seed n).toArray) rfl (by kernel_rfl) (by kernel_rfl) (by kernel_rfl) (fun _ _ _ h => h) (yieldsIf_load_mid (by rfl) 43 (.tmp 1) rfl w.heap.size 0 rfl (keyC seed n) _ (fun w' h => Blk.all h) Tryd.underlying43 rfl HKS.out) hHeld ?_
      show wpAnyH _ _ _ _ _ _ _ (Act.put _ (some 14) _) _
      simp only [Act.put, List.setIfInBounds_toArray, List.set_cons_zero, List.set_cons_succ]
      refine wpAnyH_take (i := 3) (v := .int .i64 (k : Int)) rfl (by kernel_rfl) (by kernel_rfl) (by kernel_rfl) (fun _ _ _ h => h) (Or.inl ⟨by rfl, fun w _ => by rfl⟩) hHeld ?_
      show wpAnyH _ _ _ _ _ _ _ (Act.put _ (some 15) _) _
      simp only [Act.put, List.setIfInBounds_toArray, List.set_cons_zero, List.set_cons_succ]
      refine wpAnyH_take (i := 4) (v := .int .i64 0) rfl (by kernel_rfl) (by kernel_rfl) (by kernel_rfl) (fun _ _ _ h => h) (Or.inl ⟨by rfl, fun w _ => by rfl⟩) hHeld ?_
      show wpAnyH _ _ _ _ _ _ _ (Act.put _ (some 16) _) _
      simp only [Act.put, List.setIfInBounds_toArray, List.set_cons_zero, List.set_cons_succ]
      refine wpAnyH_take (i := 7) (v := .pointer (some ⟨w.heap.size + 1 + 1, k * 32, none⟩)) rfl (by kernel_rfl) (by kernel_rfl) (by kernel_rfl) (fun _ _ _ h => h) (Or.inl ⟨by rfl, by intro w' _; go_simp⟩) hHeld ?_
      show wpAnyH _ _ _ _ _ _ _ (Act.put _ (some 19) _) _
      simp only [Act.put, List.setIfInBounds_toArray, List.set_cons_zero, List.set_cons_succ]
      refine wpAnyH_ready (rs := [5]) (by kernel_rfl) (by simp) ?_
      refine AllReadyH.cons rfl (fun K hK => ?_) AllReadyH.nil
      refine step_call rfl 66 #[.tmp 14, .tmp 15, .tmp 16] #[43, 3, 3] rfl #[.agg (keyC seed n).toArray, .int .i64 (k : Int), .int .i64 0] (by simp [Act.eval]) (by go_simp) (HI.out k 0 hlt (by omega) _ (below_drewN HW.out 1)) ?_
      rintro e X0 ⟨rfl, hBX0⟩
      have HWX0 := Lib.hid ((below_drewN HW.out 1).trans (hBX0.mono (below_drewN HW.out 1).size))
      have HAX0 := Lib.hid (Blk.below (HA.out.drewN 1) hBX0 HA.out.lt)
      have HBX0 := Lib.hid (Blk.below (HB.out.drewN 1) hBX0 HB.out.lt)
      have HCX0 := Lib.hid (Blk.below (HC0.out.drewN 1) hBX0 HC0.out.lt)
      clear hBX0
      refine ⟨_, rfl, hK.out _ _ (HAX0.out) (fun hHeld => ?_)⟩
      clear hK K
      show wpAnyH _ _ _ _ _ _ _ (Act.put _ (some 17) _) _
      simp only [Act.put, List.setIfInBounds_toArray, List.set_cons_zero, List.set_cons_succ]
      refine wpAnyH_ready (rs := [6]) (by kernel_rfl) (by simp) ?_
      refine AllReadyH.cons rfl (fun K hK => ?_) AllReadyH.nil
      refine step_call rfl 65 #[.tmp 17] #[53] rfl #[.agg (w8 (secN seed n k 0)).toArray] (by simp [Act.eval]) (by go_simp) (HI2.out k 0 X0 HWX0.out) ?_
      rintro e Y0 ⟨rfl, hBY0⟩
      have HWY0 := Lib.hid (HWX0.out.trans (hBY0.mono HWX0.out.size))
      have HAY0 := Lib.hid (HAX0.out.below hBY0 HAX0.out.lt)
      have HBY0 := Lib.hid (HBX0.out.below hBY0 HBX0.out.lt)
      have HCY0 := Lib.hid (HCX0.out.below hBY0 HCX0.out.lt)
      clear hBY0
      refine ⟨_, rfl, hK.out _ _ (HAY0.out) (fun hHeld => ?_)⟩
      clear hK K
      show wpAnyH _ _ _ _ _ _ _ (Act.put _ (some 18) _) _
      simp only [Act.put, List.setIfInBounds_toArray, List.set_cons_zero, List.set_cons_succ]
      refine wpAnyH_take (i := 8) (v := .pointer (some ⟨w.heap.size + 1 + 1, k * 32, none⟩)) rfl (by kernel_rfl) (by kernel_rfl) (by kernel_rfl) (fun _ _ _ h => h) (Or.inl ⟨by rfl, by intro w' _; go_simp⟩) hHeld ?_
      show wpAnyH _ _ _ _ _ _ _ (Act.put _ (some 20) _) _
      simp only [Act.put, List.setIfInBounds_toArray, List.set_cons_zero, List.set_cons_succ]
      have HLY0 : Hid ((w8 (covN (secN seed n k 0))).length = 16) := Lib.hid (by rw [w8_length, covN_length])
      have HIY0 : Hid ((Tryd.prog.info? 53).map (·.size) = some (w8 (covN (secN seed n k 0))).length) := Lib.hid (by rw [HLY0.out]; exact info53)
      have HTHY0 : Hid (Y0.there (w.heap.size + 1 + 1) (k * 32) (w8 (covN (secN seed n k 0))).length) := Lib.hid (HCY0.out.there _ _ (by rw [HLY0.out, w8_length]; simp [HRL.out]; omega))
      refine wpAnyH_ready (rs := [9]) (by kernel_rfl) (by simp) ?_
      refine AllReadyH.cons rfl (fun K hK => ?_) AllReadyH.nil
      refine step_store_mid rfl 53 (.tmp 20) (.tmp 18) rfl (w.heap.size + 1 + 1) (k * 32) (w8 (covN (secN seed n k 0))) rfl rfl HTHY0.out HIY0.out (w8_one _) ?_
      refine hK.out _ _ (HAY0.out.farCells (by omega) _) (fun hHeld => ?_)
      clear hK K
      show wpAnyH _ _ _ _ _ _ _ (Act.put _ none _) _
      simp only [Act.put]
      have HAD := Lib.hid (HAY0.out.farCells (b := w.heap.size + 1 + 1) (o := k * 32) (by omega) (w8 (covN (secN seed n k 0))))
      have HBD := Lib.hid (HBY0.out.farCells (b := w.heap.size + 1 + 1) (o := k * 32) (by omega) (w8 (covN (secN seed n k 0))))
      have HCD := Lib.hid (Blk.put8 (rows f k) (List.replicate 16 0) (List.replicate 16 0 ++ List.replicate (1024 - 32 * (k + 1)) 0) (covN (secN seed n k 0)) HCY0.out (by rw [covN_length]; simp) (k * 32) (by rw [HRL.out]; omega))
      have HWD := Lib.hid (below_cells (g := w.heap.size + 1 + 1) (w8 (covN (secN seed n k 0))) (k * 32) Y0 HWY0.out (by omega))
      generalize Y0.setCells (w.heap.size + 1 + 1) (k * 32) (w8 (covN (secN seed n k 0))) = D at HAD HBD HCD HWD ⊢
      refine wpAnyH_done (by kernel_rfl) ?_ _
      clear HWX0 HAX0 HBX0 HCX0 HWY0 HAY0 HBY0 HCY0 HLY0 HIY0 HTHY0 HSX0a hHeld
      go_wp2_with fail
      rw [rounds_succ]
      go_upto_region 8 with fail
      refine wp_region_held_drew (S := fun w' => Blk w' w.heap.size 43 (keyC seed n)) (by kernel_rfl) (HAD.out.drewN 1) (fun hHeld => ?_)
      have HSX1a := Lib.hid hHeld
      refine wpAnyH_take (i := 0) (v := .int .i64 (k : Int)) rfl (by kernel_rfl) (by kernel_rfl) (by kernel_rfl) (fun _ _ _ h => h) (Or.inl ⟨by rfl, fun w _ => by rfl⟩) hHeld ?_
      show wpAnyH _ _ _ _ _ _ _ (Act.put _ (some 12) _) _
      simp only [Act.put, List.setIfInBounds_toArray, List.set_cons_zero, List.set_cons_succ]
      refine wpAnyH_take (i := 1) (v := .int .i64 1) rfl (by kernel_rfl) (by kernel_rfl) (by kernel_rfl) (fun _ _ _ h => h) (Or.inl ⟨by rfl, fun w _ => by rfl⟩) hHeld ?_
      show wpAnyH _ _ _ _ _ _ _ (Act.put _ (some 13) _) _
      simp only [Act.put, List.setIfInBounds_toArray, List.set_cons_zero, List.set_cons_succ]
      refine wpAnyH_take (i := 2) (v := .agg (keyC seed n).toArray) rfl (by kernel_rfl) (by kernel_rfl) (by kernel_rfl) (fun _ _ _ h => h) (yieldsIf_load_mid (by rfl) 43 (.tmp 1) rfl w.heap.size 0 rfl (keyC seed n) _ (fun w' h => Blk.all h) Tryd.underlying43 rfl HKS.out) hHeld ?_
      show wpAnyH _ _ _ _ _ _ _ (Act.put _ (some 14) _) _
      simp only [Act.put, List.setIfInBounds_toArray, List.set_cons_zero, List.set_cons_succ]
      refine wpAnyH_take (i := 3) (v := .int .i64 (k : Int)) rfl (by kernel_rfl) (by kernel_rfl) (by kernel_rfl) (fun _ _ _ h => h) (Or.inl ⟨by rfl, fun w _ => by rfl⟩) hHeld ?_
      show wpAnyH _ _ _ _ _ _ _ (Act.put _ (some 15) _) _
      simp only [Act.put, List.setIfInBounds_toArray, List.set_cons_zero, List.set_cons_succ]
      refine wpAnyH_take (i := 4) (v := .int .i64 1) rfl (by kernel_rfl) (by kernel_rfl) (by kernel_rfl) (fun _ _ _ h => h) (Or.inl ⟨by rfl, fun w _ => by rfl⟩) hHeld ?_
      show wpAnyH _ _ _ _ _ _ _ (Act.put _ (some 16) _) _
      simp only [Act.put, List.setIfInBounds_toArray, List.set_cons_zero, List.set_cons_succ]
      refine wpAnyH_take (i := 7) (v := .pointer (some ⟨w.heap.size + 1 + 1, k * 32, none⟩)) rfl (by kernel_rfl) (by kernel_rfl) (by kernel_rfl) (fun _ _ _ h => h) (Or.inl ⟨by rfl, by intro w' _; go_simp⟩) hHeld ?_
      show wpAnyH _ _ _ _ _ _ _ (Act.put _ (some 19) _) _
      simp only [Act.put, List.setIfInBounds_toArray, List.set_cons_zero, List.set_cons_succ]
      refine wpAnyH_ready (rs := [5]) (by kernel_rfl) (by simp) ?_
      refine AllReadyH.cons rfl (fun K hK => ?_) AllReadyH.nil
      refine step_call rfl 66 #[.tmp 14, .tmp 15, .tmp 16] #[43, 3, 3] rfl #[.agg (keyC seed n).toArray, .int .i64 (k : Int), .int .i64 1] (by simp [Act.eval]) (by go_simp) (HI.out k 1 hlt (by omega) _ (below_drewN HWD.out 1)) ?_
      rintro e X1 ⟨rfl, hBX1⟩
      have HWX1 := Lib.hid ((below_drewN HWD.out 1).trans (hBX1.mono (below_drewN HWD.out 1).size))
      have HAX1 := Lib.hid (Blk.below (HAD.out.drewN 1) hBX1 HAD.out.lt)
      have HBX1 := Lib.hid (Blk.below (HBD.out.drewN 1) hBX1 HBD.out.lt)
      have HCX1 := Lib.hid (Blk.below (HCD.out.drewN 1) hBX1 HCD.out.lt)
      clear hBX1
      refine ⟨_, rfl, hK.out _ _ (HAX1.out) (fun hHeld => ?_)⟩
      clear hK K
      show wpAnyH _ _ _ _ _ _ _ (Act.put _ (some 17) _) _
      simp only [Act.put, List.setIfInBounds_toArray, List.set_cons_zero, List.set_cons_succ]
      refine wpAnyH_ready (rs := [6]) (by kernel_rfl) (by simp) ?_
      refine AllReadyH.cons rfl (fun K hK => ?_) AllReadyH.nil
      refine step_call rfl 65 #[.tmp 17] #[53] rfl #[.agg (w8 (secN seed n k 1)).toArray] (by simp [Act.eval]) (by go_simp) (HI2.out k 1 X1 HWX1.out) ?_
      rintro e Y1 ⟨rfl, hBY1⟩
      have HWY1 := Lib.hid (HWX1.out.trans (hBY1.mono HWX1.out.size))
      have HAY1 := Lib.hid (HAX1.out.below hBY1 HAX1.out.lt)
      have HBY1 := Lib.hid (HBX1.out.below hBY1 HBX1.out.lt)
      have HCY1 := Lib.hid (HCX1.out.below hBY1 HCX1.out.lt)
      clear hBY1
      refine ⟨_, rfl, hK.out _ _ (HAY1.out) (fun hHeld => ?_)⟩
      clear hK K
      show wpAnyH _ _ _ _ _ _ _ (Act.put _ (some 18) _) _
      simp only [Act.put, List.setIfInBounds_toArray, List.set_cons_zero, List.set_cons_succ]
      refine wpAnyH_take (i := 8) (v := .pointer (some ⟨w.heap.size + 1 + 1, k * 32 + 16, none⟩)) rfl (by kernel_rfl) (by kernel_rfl) (by kernel_rfl) (fun _ _ _ h => h) (Or.inl ⟨by rfl, by intro w' _; go_simp⟩) hHeld ?_
      show wpAnyH _ _ _ _ _ _ _ (Act.put _ (some 20) _) _
      simp only [Act.put, List.setIfInBounds_toArray, List.set_cons_zero, List.set_cons_succ]
      have HLY1 : Hid ((w8 (covN (secN seed n k 1))).length = 16) := Lib.hid (by rw [w8_length, covN_length])
      have HIY1 : Hid ((Tryd.prog.info? 53).map (·.size) = some (w8 (covN (secN seed n k 1))).length) := Lib.hid (by rw [HLY1.out]; exact info53)
      have HTHY1 : Hid (Y1.there (w.heap.size + 1 + 1) (k * 32 + 16) (w8 (covN (secN seed n k 1))).length) := Lib.hid (HCY1.out.there _ _ (by rw [HLY1.out, w8_length]; simp [HRL.out, covN_length]; omega))
      refine wpAnyH_ready (rs := [9]) (by kernel_rfl) (by simp) ?_
      refine AllReadyH.cons rfl (fun K hK => ?_) AllReadyH.nil
      refine step_store_mid rfl 53 (.tmp 20) (.tmp 18) rfl (w.heap.size + 1 + 1) (k * 32 + 16) (w8 (covN (secN seed n k 1))) rfl rfl HTHY1.out HIY1.out (w8_one _) ?_
      refine hK.out _ _ (HAY1.out.farCells (by omega) _) (fun hHeld => ?_)
      clear hK K
      show wpAnyH _ _ _ _ _ _ _ (Act.put _ none _) _
      simp only [Act.put]
      have HAE := Lib.hid (HAY1.out.farCells (b := w.heap.size + 1 + 1) (o := k * 32 + 16) (by omega) (w8 (covN (secN seed n k 1))))
      have HBE := Lib.hid (HBY1.out.farCells (b := w.heap.size + 1 + 1) (o := k * 32 + 16) (by omega) (w8 (covN (secN seed n k 1))))
      have HCE : Hid (Blk (Y1.setCells (w.heap.size + 1 + 1) (k * 32 + 16) (w8 (covN (secN seed n k 1)))) (w.heap.size + 1 + 1) 122 (w8 (pairC f (k + 1)))) := Lib.hid (by
        have h := Blk.put8 (rows f k ++ covN (secN seed n k 0)) (List.replicate 16 0) (List.replicate (1024 - 32 * (k + 1)) 0) (covN (secN seed n k 1)) (by rw [List.append_assoc]; exact HCY1.out) (by rw [covN_length]; simp) (k * 32 + 16) (by rw [List.length_append, HRL.out, covN_length]; omega)
        rw [List.append_assoc, pairC_shut f k _ _ (HF.out k)] at h
        exact h)
      have HWE := Lib.hid (below_cells (g := w.heap.size + 1 + 1) (w8 (covN (secN seed n k 1))) (k * 32 + 16) Y1 HWY1.out (by omega))
      generalize Y1.setCells (w.heap.size + 1 + 1) (k * 32 + 16) (w8 (covN (secN seed n k 1))) = E at HAE HBE HCE HWE ⊢
      refine wpAnyH_done (by kernel_rfl) ?_ _
      clear HWX1 HAX1 HBX1 HCX1 HWY1 HAY1 HBY1 HCY1 HLY1 HIY1 HTHY1 HSX1a hHeld
      go_wp2_with fail
      rw [rounds_succ]
      go_wp2
      go_roundw
      case rel => exact ⟨k + 1, by omega, by go_num, HAE, HBE, HCE, HWE⟩
      case measure => simp [intOf]; omega
    · obtain rfl : k = 32 := by omega
      rw [pairC_end] at HC
      have HRL : Hid ((rows f 32).length = 1024) := Lib.hid (rows_length HFL.out 32)
      have HRB : Hid (∀ x ∈ rows f 32, x < 256) := Lib.hid (rows_lt (fun a x hx => by
        rw [HF.out a] at hx
        rcases List.mem_append.1 hx with hx | hx
        · exact covN_lt _ x hx
        · exact covN_lt _ x hx) 32)
      have HRG := Lib.hid HC.out.all
      have HS5 : Hid ((Tryd.prog.info? 122).map (·.size) = some (w8 (rows f 32)).length) := Lib.hid (by rw [w8_length, HRL.out]; exact info122)
      go_wp2_with (first | (refine wpList_load_mid rfl 122 (.tmp 3) rfl (w.heap.size + 1 + 1) 0 rfl (w8 (rows f 32)) _ HRG.out Tryd.underlying122 rfl HS5.out ?_))
      refine (pleaf_any (rows f 32) wr (Lib.hid (HT.out.below HW.out HT.out.lt)) HRL HRB).mono ?_
      rintro e V2 ⟨rfl, hB2⟩
      have HW3 := Lib.hid (HW.out.trans (hB2.mono HW.out.size))
      have HB3 := Lib.hid (HB.out.below hB2 HB.out.lt)
      clear hB2
      rw [← HFR.out]
      have HS6 : Hid ((Tryd.prog.info? 36).map (·.size) = some (w8 (leafN seed n)).toArray.size) := Lib.hid (by rw [List.size_toArray, w8_length, leafN_length]; exact info36)
      have HZ6 : Hid ((w8 (List.replicate 32 0)).toArray.size = (w8 (leafN seed n)).toArray.size) := Lib.hid (by rw [List.size_toArray, List.size_toArray, w8_length, w8_length, leafN_length]; simp)
      have HO6 := Lib.hid (all_oneCell_toArray (w8_one (leafN seed n)))
      go_wp2_with (first | (refine wpList_store_row rfl 36 (.tmp 2) (.tmp 24) rfl (w.heap.size + 1) (w8 (leafN seed n)).toArray rfl rfl 36 _ HB3.out HS6.out HZ6.out HO6.out ?_))
      exact bodyPost_ret (v := .agg (w8 (leafN seed n)).toArray) (results_cell_row Tryd.results22 _ _ (w.heap.size + 1) 36 (w8 (leafN seed n)).toArray (0, 0) _ rfl (HB3.out.setRow _) Tryd.underlying36 rfl HS6.out) rfl ⟨rfl, below_setRow HW3.out (by omega) _⟩
end Go.Proofs.YtkonokjhpddbfaaDoor
