/-
  Payments as the program's and as the document's; payments compared.
-/
import Derived.ChangeKeysEq
import Derived.Test.YtbdjlnejlkiijaaDoorRRRDeA
namespace Go.Proofs.YtbdjlnejlkiijaaDoorRRR
open Go.RowKit
set_option linter.unusedVariables false

section
variable {P : Program} {w : World} {ops : Array Oper} {rest : List Oper} {o : Oper} {a : Act} {Q : Exit → Act → World → Prop}
theorem run_build_op {t : TypeId} {parts : Array (Nat × Operand)} (ho : o.op = .build t parts) (vals : Array (Nat × Value)) (hv : (parts.map fun (i, x) => (i, a.eval x)) = vals) (v : Value) (w : World)
    (hb : (Instr.build t vals).run P w = .ok v w) : (execOp a.eval o).run P w = .ok (.value v) w := by
  unfold execOp
  simp only [ho, hv, Sem.run_bind, hb, Result.andThen_ok, Sem.run_pure]
theorem wpList_build_v (hgd : o.guard = none) (t : TypeId) (parts : Array (Nat × Operand)) (ho : o.op = .build t parts) (vals : Array (Nat × Value)) (hv : (parts.map fun (i, x) => (i, a.eval x)) = vals) (v : Value) (hb : (Instr.build t vals).run P w = .ok v w)
    (h : wpList P ops Q rest (a.put o.dst v) w) : wpList P ops Q (o :: rest) a w :=
  wpList_plain hgd fun K hK => by
    unfold Oper.wp
    rw [run_build_op ho vals hv v w hb]
    exact hK _ _ h
end
theorem built60 (c : Cnd) (hok : c.Ok) (W : World) : (Instr.build 47 #[(0, .int .u64 c.id), (1, .int .i64 c.side), (2, .int .u64 c.amt), (3, .agg (u8s c.h).toArray), (4, .int .u64 c.ex)]).run Tryd.prog W = .ok (.agg c.cells.toArray) W := by
  obtain ⟨id, side, amt, h, ex⟩ := c
  have hl : h.length = 32 := hok.h
  refine run_build W 47 _ _ ?_
  match h, hl with
  | [a0, a1, a2, a3, a4, a5, a6, a7, a8, a9, b0, b1, b2, b3, b4, b5, b6, b7, b8, b9, c0, c1, c2, c3, c4, c5, c6, c7, c8, c9, d0, d1], _ =>
    show Program.built Tryd.prog 47 _ = some _
    kernel_rfl

theorem built53 (c : Cnd) (hok : c.Ok) (W : World) : (Instr.build 30 #[(0, .int .u64 c.id), (1, .int .i64 c.side), (2, .int .u64 c.amt), (3, .agg (u8s c.h).toArray), (4, .int .u64 c.ex)]).run Tryd.prog W = .ok (.agg c.cells.toArray) W := by
  obtain ⟨id, side, amt, h, ex⟩ := c
  have hl : h.length = 32 := hok.h
  refine run_build W 30 _ _ ?_
  match h, hl with
  | [a0, a1, a2, a3, a4, a5, a6, a7, a8, a9, b0, b1, b2, b3, b4, b5, b6, b7, b8, b9, c0, c1, c2, c3, c4, c5, c6, c7, c8, c9, d0, d1], _ =>
    show Program.built Tryd.prog 30 _ = some _
    kernel_rfl

set_option maxRecDepth 100000 in
set_option maxHeartbeats 4000000 in
theorem cto_any (c : Cnd) (w : World) (hok : c.Ok) : Calls Tryd.prog 30 #[.agg c.cells.toArray] w fun e w' => e = .returned (.agg c.cells.toArray) ∧ Below w.heap.size w w' := by
  have hb := fun W => built60 c hok W
  have hz1 : (Tryd.prog.info? 47).map (·.size) = some c.cells.toArray.size := by rw [hok.size]; exact info60
  have hz2 : (Tryd.prog.info? 28).map (·.size) = some (u8s c.h).length := by rw [u8s_length, hok.h]; exact info51
  have hz3 : (#[.int .u64 0, .int .i64 0, .int .u64 0, .int .u8 0, .int .u8 0, .int .u8 0, .int .u8 0, .int .u8 0, .int .u8 0, .int .u8 0, .int .u8 0, .int .u8 0, .int .u8 0, .int .u8 0, .int .u8 0, .int .u8 0, .int .u8 0, .int .u8 0, .int .u8 0, .int .u8 0, .int .u8 0, .int .u8 0, .int .u8 0, .int .u8 0, .int .u8 0, .int .u8 0, .int .u8 0, .int .u8 0, .int .u8 0, .int .u8 0, .int .u8 0, .int .u8 0, .int .u8 0, .int .u8 0, .int .u8 0, .int .u64 0] : Array Value).size = c.cells.toArray.size := by rw [hok.size]; rfl
  have hco := c.all_one
  have e35 := hok.c35
  go_enter Tryd.func30, Tryd.ntmps30
  go_upto_region 1 with fail
  have hH := (Blk.new w 30 c.cells).alloc (.cells #[.int .u64 0, .int .i64 0, .int .u64 0, .int .u8 0, .int .u8 0, .int .u8 0, .int .u8 0, .int .u8 0, .int .u8 0, .int .u8 0, .int .u8 0, .int .u8 0, .int .u8 0, .int .u8 0, .int .u8 0, .int .u8 0, .int .u8 0, .int .u8 0, .int .u8 0, .int .u8 0, .int .u8 0, .int .u8 0, .int .u8 0, .int .u8 0, .int .u8 0, .int .u8 0, .int .u8 0, .int .u8 0, .int .u8 0, .int .u8 0, .int .u8 0, .int .u8 0, .int .u8 0, .int .u8 0, .int .u8 0, .int .u64 0] 47)
  have hR : Blk ((w.alloc (.cells c.cells.toArray 30)).alloc (.cells #[.int .u64 0, .int .i64 0, .int .u64 0, .int .u8 0, .int .u8 0, .int .u8 0, .int .u8 0, .int .u8 0, .int .u8 0, .int .u8 0, .int .u8 0, .int .u8 0, .int .u8 0, .int .u8 0, .int .u8 0, .int .u8 0, .int .u8 0, .int .u8 0, .int .u8 0, .int .u8 0, .int .u8 0, .int .u8 0, .int .u8 0, .int .u8 0, .int .u8 0, .int .u8 0, .int .u8 0, .int .u8 0, .int .u8 0, .int .u8 0, .int .u8 0, .int .u8 0, .int .u8 0, .int .u8 0, .int .u8 0, .int .u64 0] 47)) (w.heap.size + 1) 47 [.int .u64 0, .int .i64 0, .int .u64 0, .int .u8 0, .int .u8 0, .int .u8 0, .int .u8 0, .int .u8 0, .int .u8 0, .int .u8 0, .int .u8 0, .int .u8 0, .int .u8 0, .int .u8 0, .int .u8 0, .int .u8 0, .int .u8 0, .int .u8 0, .int .u8 0, .int .u8 0, .int .u8 0, .int .u8 0, .int .u8 0, .int .u8 0, .int .u8 0, .int .u8 0, .int .u8 0, .int .u8 0, .int .u8 0, .int .u8 0, .int .u8 0, .int .u8 0, .int .u8 0, .int .u8 0, .int .u8 0, .int .u64 0] := Blk.mk_ (by simp)
  have B : Hid (Below w.heap.size w ((w.alloc (.cells c.cells.toArray 30)).alloc (.cells #[.int .u64 0, .int .i64 0, .int .u64 0, .int .u8 0, .int .u8 0, .int .u8 0, .int .u8 0, .int .u8 0, .int .u8 0, .int .u8 0, .int .u8 0, .int .u8 0, .int .u8 0, .int .u8 0, .int .u8 0, .int .u8 0, .int .u8 0, .int .u8 0, .int .u8 0, .int .u8 0, .int .u8 0, .int .u8 0, .int .u8 0, .int .u8 0, .int .u8 0, .int .u8 0, .int .u8 0, .int .u8 0, .int .u8 0, .int .u8 0, .int .u8 0, .int .u8 0, .int .u8 0, .int .u8 0, .int .u8 0, .int .u64 0] 47))) := Lib.hid (((Below.refl _ _).alloc (Nat.le_refl _) _).alloc (by simp) _)
  generalize (w.alloc (.cells c.cells.toArray 30)).alloc (.cells #[.int .u64 0, .int .i64 0, .int .u64 0, .int .u8 0, .int .u8 0, .int .u8 0, .int .u8 0, .int .u8 0, .int .u8 0, .int .u8 0, .int .u8 0, .int .u8 0, .int .u8 0, .int .u8 0, .int .u8 0, .int .u8 0, .int .u8 0, .int .u8 0, .int .u8 0, .int .u8 0, .int .u8 0, .int .u8 0, .int .u8 0, .int .u8 0, .int .u8 0, .int .u8 0, .int .u8 0, .int .u8 0, .int .u8 0, .int .u8 0, .int .u8 0, .int .u8 0, .int .u8 0, .int .u8 0, .int .u8 0, .int .u64 0] 47) = V at hH hR B ⊢
  have c0 := hH.cell 0
  have c1 := hH.cell 1
  have c2 := hH.cell 2
  have c35 := hH.cell 35
  rw [Cnd.c0] at c0
  rw [Cnd.c1] at c1
  rw [Cnd.c2] at c2
  rw [e35] at c35
  have hrg : V.rangeAt w.heap.size 3 (u8s c.h) := by
    have := Cnd.Ok.range c hok hH.all
    rwa [Nat.zero_add] at this
  have hR9 : V.heap[w.heap.size + 1]? = some (.cells #[.int .u64 0, .int .i64 0, .int .u64 0, .int .u8 0, .int .u8 0, .int .u8 0, .int .u8 0, .int .u8 0, .int .u8 0, .int .u8 0, .int .u8 0, .int .u8 0, .int .u8 0, .int .u8 0, .int .u8 0, .int .u8 0, .int .u8 0, .int .u8 0, .int .u8 0, .int .u8 0, .int .u8 0, .int .u8 0, .int .u8 0, .int .u8 0, .int .u8 0, .int .u8 0, .int .u8 0, .int .u8 0, .int .u8 0, .int .u8 0, .int .u8 0, .int .u8 0, .int .u8 0, .int .u8 0, .int .u8 0, .int .u64 0] 47 (0, 0)) := hR
  clear e35
  go_wp2_with (first | (refine wpList_load_mid rfl 28 (.tmp 9) rfl w.heap.size 3 rfl (u8s c.h) _ hrg Tryd.underlying28 rfl hz2 ?_) | (refine wpList_build_v rfl 47 _ rfl #[(0, .int .u64 c.id), (1, .int .i64 c.side), (2, .int .u64 c.amt), (3, .agg (u8s c.h).toArray), (4, .int .u64 c.ex)] (by simp [Act.eval]) _ (hb _) ?_) | (refine wpList_store_row rfl 47 (.tmp 2) (.tmp 13) rfl (w.heap.size + 1) c.cells.toArray rfl rfl 47 _ hR9 hz1 hz3 hco ?_))
  exact bodyPost_ret (results_cell_row Tryd.results30 _ _ (w.heap.size + 1) 47 c.cells.toArray (0, 0) _ rfl (hR.setRow _) Tryd.underlying47 rfl hz1) rfl ⟨rfl, below_setRow B.out (by omega) _⟩

/-- Whole numbers compared, one by one. -/
theorem eqItems_ints {P : Program} {e : TypeId} {k : IntKind} (hu : P.underlying e = some (.int k)) (d : Nat) (x y : List Int) (w : World) : ∀ is : List Nat, (∀ i ∈ is, i < x.length ∧ i < y.length) →
    (Op.eqItems (d + 1) e 1 (x.map (Value.int k)).toArray (y.map (Value.int k)).toArray is).run P w = .ok (is.all fun i => x.getD i 0 == y.getD i 0) w
  | [], _ => rfl
  | i :: is, h => by
    have hp : ∀ (z : List Int), i < z.length → (part e (z.map (Value.int k)).toArray (i * 1)).run P w = .ok (.int k (z.getD i 0)) w := fun z hz => by
      simp [part, isAgg, run_underlying hu, List.getD, hz]
    have h1 := h i (by simp)
    simp only [Op.eqItems, Sem.run_bind, hp x h1.1, hp y h1.2, Result.andThen_ok, run_equalIn_int w d e k k _ _ hu]
    rw [List.all_cons]
    cases hq : (x.getD i 0 == y.getD i 0)
    · rfl
    · have ih := eqItems_ints hu d x y w is (fun j hj => h j (by simp [hj]))
      simp only [Bool.not_true, Bool.false_eq_true, if_false, ih, Bool.true_and]
theorem all_eq {x y : List Int} {n : Nat} (hx : x.length = n) (hy : y.length = n) : ((List.range n).all fun i => x.getD i 0 == y.getD i 0) = decide (x = y) := by
  rw [Bool.eq_iff_iff, decide_eq_true_iff, List.all_eq_true]
  constructor
  · intro h
    refine List.ext_getElem (by omega) fun i h1 h2 => ?_
    have := h i (List.mem_range.2 (by omega))
    simpa [List.getD, h1, h2] using this
  · rintro rfl i _
    simp
theorem eq_hash (x y : List Int) (hx : x.length = 32) (hy : y.length = 32) (w : World) : (Op.equalIn 9999 45 (.agg (u8s x).toArray) (.agg (u8s y).toArray)).run Tryd.prog w = .ok (decide (x = y)) w := by
  obtain ⟨i0, hi, hz0⟩ := Option.map_eq_some_iff.1 (show (Tryd.prog.info? 5).map (·.size) = some 1 by kernel_rfl)
  rw [run_equalIn_array (P := Tryd.prog) w 9998 _ _ Tryd.underlying45 hi, show Tryd.prog.cellsOf 5 = 1 by kernel_rfl]
  rw [u8s, u8s, eqItems_ints (P := Tryd.prog) Tryd.underlying5 9997 x y w (List.range 32) (fun i hi => by have := List.mem_range.1 hi; omega), all_eq hx hy]
theorem eq_hash' (x y : List Int) (hx : x.length = 32) (hy : y.length = 32) (w : World) : (Op.equalIn 9999 28 (.agg (u8s x).toArray) (.agg (u8s y).toArray)).run Tryd.prog w = .ok (decide (x = y)) w := by
  obtain ⟨i0, hi, hz0⟩ := Option.map_eq_some_iff.1 (show (Tryd.prog.info? 5).map (·.size) = some 1 by kernel_rfl)
  rw [run_equalIn_array (P := Tryd.prog) w 9998 _ _ Tryd.underlying28 hi, show Tryd.prog.cellsOf 5 = 1 by kernel_rfl]
  rw [u8s, u8s, eqItems_ints (P := Tryd.prog) Tryd.underlying5 9997 x y w (List.range 32) (fun i hi => by have := List.mem_range.1 hi; omega), all_eq hx hy]
theorem part_agg {P : Program} {t e : TypeId} {n : Nat} {i : TypeInfo} (hu : P.underlying t = some (.array n e)) (hi : P.info? t = some i) (xs : Array Value) (o : Nat) (w : World) : (part t xs o).run P w = .ok (.agg (xs.extract o (o + i.size))) w := by
  simp [part, isAgg, run_underlying hu, sizeOf, typeInfo, hi]
theorem cells_hash (c : Cnd) (hok : c.Ok) : c.cells.toArray.extract 3 (3 + 32) = (u8s c.h).toArray := by
  apply Array.ext'
  simp only [Array.toList_extract, List.extract_eq_take_drop]
  unfold Cnd.cells
  rw [List.append_assoc, List.drop_left' (by rfl), show 3 + 32 - 3 = 32 from rfl, List.take_left' (by rw [u8s_length, hok.h])]
theorem part_hash58 (c : Cnd) (hok : c.Ok) (w : World) : (part 45 c.cells.toArray 3).run Tryd.prog w = .ok (.agg (u8s c.h).toArray) w := by
  obtain ⟨i0, hi, hz0⟩ := Option.map_eq_some_iff.1 info58
  rw [part_agg Tryd.underlying45 hi, hz0, cells_hash c hok]
theorem part_hash51 (c : Cnd) (hok : c.Ok) (w : World) : (part 28 c.cells.toArray 3).run Tryd.prog w = .ok (.agg (u8s c.h).toArray) w := by
  obtain ⟨i0, hi, hz0⟩ := Option.map_eq_some_iff.1 info51
  rw [part_agg Tryd.underlying28 hi, hz0, cells_hash c hok]
theorem part_u64 (t : TypeId) (k : IntKind) (ht : Tryd.prog.underlying t = some (.int k)) (xs : Array Value) (i : Nat) (v : Value) (h : xs[i]? = some v) (w : World) : (part t xs i).run Tryd.prog w = .ok v w := by
  simp [part, isAgg, run_underlying ht, h]
theorem Cnd.ext_iff' (c d : Cnd) : (c = d) ↔ (c.id = d.id ∧ c.side = d.side ∧ c.amt = d.amt ∧ c.h = d.h ∧ c.ex = d.ex) := by
  cases c; cases d; simp

set_option maxRecDepth 100000 in
theorem neq60 (c d : Cnd) (hc : c.Ok) (hd : d.Ok) (w : World) : (binOp .neq 47 (.agg c.cells.toArray) (.agg d.cells.toArray)).run Tryd.prog w = .ok (.bool (!decide (c = d))) w := by
  rw [run_neq_struct]
  have p0 := fun (c : Cnd) w => part_u64 23 .u64 Tryd.underlying23 c.cells.toArray 0 _ (by simpa using c.c0) w
  have p1 := fun (c : Cnd) w => part_u64 44 .i64 Tryd.underlying44 c.cells.toArray 1 _ (by simpa using c.c1) w
  have p2 := fun (c : Cnd) w => part_u64 23 .u64 Tryd.underlying23 c.cells.toArray 2 _ (by simpa using c.c2) w
  have p3 := fun (c : Cnd) (hc : c.Ok) w => part_hash58 c hc w
  have p4 := fun (c : Cnd) (hc : c.Ok) w => part_u64 23 .u64 Tryd.underlying23 c.cells.toArray 35 _ (by simpa using hc.c35) w
  rw [run_equalIn_struct (P := Tryd.prog) w 9999 47 _ _ (by kernel_rfl) (by kernel_rfl)]
  obtain ⟨fs, hfs⟩ : ∃ fs, (Tryd.prog.fieldsOf 47).toList = fs := ⟨_, rfl⟩
  have hm : fs.map (fun f => (f.type, f.offset)) = [(23, 0), (44, 1), (23, 2), (45, 3), (23, 35)] ∧ fs.all (fun f => f.name ≠ "_") = true := by rw [← hfs]; exact ⟨by kernel_rfl, by kernel_rfl⟩
  rw [hfs]
  clear hfs
  obtain ⟨hm, hn⟩ := hm
  have hl5 : fs.length = 5 := by simpa using congrArg List.length hm
  match fs, hm, hn, hl5 with
  | [f0, f1, f2, f3, f4], hm, hn, _ =>
    simp only [List.map_cons, List.map_nil, List.cons.injEq, Prod.mk.injEq, and_true] at hm
    obtain ⟨⟨a0, b0⟩, ⟨a1, b1⟩, ⟨a2, b2⟩, ⟨a3, b3⟩, a4, b4⟩ := hm
    simp only [List.all_cons, List.all_nil, Bool.and_true, Bool.and_eq_true, decide_eq_true_eq] at hn
    obtain ⟨n0, n1, n2, n3, n4⟩ := hn
    have q := fun (t : TypeId) (k : IntKind) (ht : Tryd.prog.underlying t = some (.int k)) (x y : Int) w => run_equalIn_int (P := Tryd.prog) w 9998 t k k x y ht
    have q0 := q 23 .u64 Tryd.underlying23
    have q1 := q 44 .i64 Tryd.underlying44
    simp only [Op.eqFields, n0, n1, n2, n3, n4, a0, a1, a2, a3, a4, b0, b1, b2, b3, b4, ne_eq, not_false_eq_true, if_true, Sem.run_bind, Sem.run_ite, Sem.run_pure, p0, p1, p2, p3 c hc, p3 d hd, p4 c hc, p4 d hd, Result.andThen_ok, q0, q1, eq_hash c.h d.h hc.h hd.h]
    by_cases e0 : c.id = d.id
    · by_cases e1 : c.side = d.side
      · by_cases e2 : c.amt = d.amt
        · by_cases e3 : c.h = d.h
          · by_cases e4 : c.ex = d.ex
            · have : c = d := (Cnd.ext_iff' c d).2 ⟨e0, e1, e2, e3, e4⟩
              subst this
              simp
            · have : c ≠ d := fun h => e4 (by rw [h])
              simp [e0, e1, e2, e3, e4, this]
          · have : c ≠ d := fun h => e3 (by rw [h])
            simp [e0, e1, e2, e3, this]
        · have : c ≠ d := fun h => e2 (by rw [h])
          simp [e0, e1, e2, this]
      · have : c ≠ d := fun h => e1 (by rw [h])
        simp [e0, e1, this]
    · have : c ≠ d := fun h => e0 (by rw [h])
      simp [e0, this]

set_option maxRecDepth 100000 in
theorem neq53 (c d : Cnd) (hc : c.Ok) (hd : d.Ok) (w : World) : (binOp .neq 30 (.agg c.cells.toArray) (.agg d.cells.toArray)).run Tryd.prog w = .ok (.bool (!decide (c = d))) w := by
  rw [run_neq_struct]
  have p0 := fun (c : Cnd) w => part_u64 23 .u64 Tryd.underlying23 c.cells.toArray 0 _ (by simpa using c.c0) w
  have p1 := fun (c : Cnd) w => part_u64 3 .i64 Tryd.underlying3 c.cells.toArray 1 _ (by simpa using c.c1) w
  have p2 := fun (c : Cnd) w => part_u64 23 .u64 Tryd.underlying23 c.cells.toArray 2 _ (by simpa using c.c2) w
  have p3 := fun (c : Cnd) (hc : c.Ok) w => part_hash51 c hc w
  have p4 := fun (c : Cnd) (hc : c.Ok) w => part_u64 23 .u64 Tryd.underlying23 c.cells.toArray 35 _ (by simpa using hc.c35) w
  rw [run_equalIn_struct (P := Tryd.prog) w 9999 30 _ _ (by kernel_rfl) (by kernel_rfl)]
  obtain ⟨fs, hfs⟩ : ∃ fs, (Tryd.prog.fieldsOf 30).toList = fs := ⟨_, rfl⟩
  have hm : fs.map (fun f => (f.type, f.offset)) = [(23, 0), (3, 1), (23, 2), (28, 3), (23, 35)] ∧ fs.all (fun f => f.name ≠ "_") = true := by rw [← hfs]; exact ⟨by kernel_rfl, by kernel_rfl⟩
  rw [hfs]
  clear hfs
  obtain ⟨hm, hn⟩ := hm
  have hl5 : fs.length = 5 := by simpa using congrArg List.length hm
  match fs, hm, hn, hl5 with
  | [f0, f1, f2, f3, f4], hm, hn, _ =>
    simp only [List.map_cons, List.map_nil, List.cons.injEq, Prod.mk.injEq, and_true] at hm
    obtain ⟨⟨a0, b0⟩, ⟨a1, b1⟩, ⟨a2, b2⟩, ⟨a3, b3⟩, a4, b4⟩ := hm
    simp only [List.all_cons, List.all_nil, Bool.and_true, Bool.and_eq_true, decide_eq_true_eq] at hn
    obtain ⟨n0, n1, n2, n3, n4⟩ := hn
    have q := fun (t : TypeId) (k : IntKind) (ht : Tryd.prog.underlying t = some (.int k)) (x y : Int) w => run_equalIn_int (P := Tryd.prog) w 9998 t k k x y ht
    have q0 := q 23 .u64 Tryd.underlying23
    have q1 := q 3 .i64 Tryd.underlying3
    simp only [Op.eqFields, n0, n1, n2, n3, n4, a0, a1, a2, a3, a4, b0, b1, b2, b3, b4, ne_eq, not_false_eq_true, if_true, Sem.run_bind, Sem.run_ite, Sem.run_pure, p0, p1, p2, p3 c hc, p3 d hd, p4 c hc, p4 d hd, Result.andThen_ok, q0, q1, eq_hash' c.h d.h hc.h hd.h]
    by_cases e0 : c.id = d.id
    · by_cases e1 : c.side = d.side
      · by_cases e2 : c.amt = d.amt
        · by_cases e3 : c.h = d.h
          · by_cases e4 : c.ex = d.ex
            · have : c = d := (Cnd.ext_iff' c d).2 ⟨e0, e1, e2, e3, e4⟩
              subst this
              simp
            · have : c ≠ d := fun h => e4 (by rw [h])
              simp [e0, e1, e2, e3, e4, this]
          · have : c ≠ d := fun h => e3 (by rw [h])
            simp [e0, e1, e2, e3, this]
        · have : c ≠ d := fun h => e2 (by rw [h])
          simp [e0, e1, e2, this]
      · have : c ≠ d := fun h => e1 (by rw [h])
        simp [e0, e1, this]
    · have : c ≠ d := fun h => e0 (by rw [h])
      simp [e0, this]

end Go.Proofs.YtbdjlnejlkiijaaDoorRRR
