/-
  The document's example: awake; a payment as the program's.
-/
import Derived.Test.YteoeoomdjfhmbaaDoorNotD
namespace Go.Proofs.YteoeoomdjfhmbaaDoor
open Go.RowKit
set_option linter.unusedVariables false

section
variable {P : Program} {w : World} {ops : Array Oper} {rest : List Oper} {o : Oper} {a : Act} {Q : Exit → Act → World → Prop}
theorem wpList_build_v (hgd : o.guard = none) (t : TypeId) (parts : Array (Nat × Operand)) (ho : o.op = .build t parts) (vals : Array (Nat × Value)) (hv : (parts.map fun (i, x) => (i, a.eval x)) = vals) (v : Value) (hb : (Instr.build t vals).run P w = .ok v w)
    (h : wpList P ops Q rest (a.put o.dst v) w) : wpList P ops Q (o :: rest) a w :=
  wpList_plain hgd fun K hK => by
    unfold Oper.wp
    rw [run_build_op ho vals hv v w hb]
    exact hK _ _ h
theorem wpList_load_rowG (hw : Region.wanted o (yielded ops a.tmps) = true) (ty : TypeId) (x : Operand) (ho : o.op = .load ty x)
    (g : Nat) (hx : a.eval x = .pointer (some ⟨g, 0, none⟩)) (t : TypeId) (cs : Array Value) (fr : Nat × Nat) (d : TypeDesc) (hg : w.heap[g]? = some (.cells cs t fr))
    (hu : P.underlying ty = some d) (hd : (match d with | .struct _ | .array _ _ => true | _ => false) = true) (hi : (P.info? ty).map (·.size) = some cs.size)
    (h : wpList P ops Q rest (a.put o.dst (.agg cs)) w) : wpList P ops Q (o :: rest) a w :=
  wpList_step fun K hK => by
    rw [if_pos hw]
    exact wp_load_row ty x ho g hx t cs fr d hg hu hd hi (hK _ _ h)
end
theorem info59 : (Tryd.prog.info? 59).map (·.size) = some 36 := by kernel_rfl
theorem info56 : (Tryd.prog.info? 56).map (·.size) = some 36 := by kernel_rfl
theorem ccells_length (id side amt : Int) (h : List Nat) (ex : Int) (hl : h.length = 32) : (ccells id side amt h ex).length = 36 := by simp [ccells, w8_length, hl]
theorem ccells_one (id side amt : Int) (h : List Nat) (ex : Int) : (ccells id side amt h ex).toArray.all (·.oneCell') = true := by
  rw [Array.all_eq_true_iff_forall_mem]
  intro v hv
  simp only [ccells, List.mem_toArray, List.mem_append, List.mem_cons, List.not_mem_nil, or_false] at hv
  rcases hv with ((rfl | rfl | rfl) | hv) | rfl
  · rfl
  · rfl
  · rfl
  · exact w8_one h v hv
  · rfl
theorem built59 (h : List Nat) (hl : h.length = 32) (ex : Int) (W : World) : (Instr.build 59 #[(3, .agg (w8 h).toArray), (4, .int .u64 ex)]).run Tryd.prog W = .ok (.agg (ccells 0 0 0 h ex).toArray) W := by
  refine run_build W 59 _ _ ?_
  match h, hl with
  | [a0, a1, a2, a3, a4, a5, a6, a7, a8, a9, b0, b1, b2, b3, b4, b5, b6, b7, b8, b9, c0, c1, c2, c3, c4, c5, c6, c7, c8, c9, d0, d1], _ =>
    show Program.built Tryd.prog 59 _ = some _
    kernel_rfl
theorem built59' (id side amt : Int) (h : List Nat) (hl : h.length = 32) (ex : Int) (W : World) : (Instr.build 59 #[(0, .int .u64 id), (1, .int .i64 side), (2, .int .u64 amt), (3, .agg (w8 h).toArray), (4, .int .u64 ex)]).run Tryd.prog W = .ok (.agg (ccells id side amt h ex).toArray) W := by
  refine run_build W 59 _ _ ?_
  match h, hl with
  | [a0, a1, a2, a3, a4, a5, a6, a7, a8, a9, b0, b1, b2, b3, b4, b5, b6, b7, b8, b9, c0, c1, c2, c3, c4, c5, c6, c7, c8, c9, d0, d1], _ =>
    show Program.built Tryd.prog 59 _ = some _
    kernel_rfl

def sk : List Nat := 1 :: List.replicate 31 0
theorem sk_length : sk.length = 32 := rfl
theorem sk_lt : ∀ x ∈ sk, x < 256 := by decide
theorem sk_lit : (Value.agg #[.int .u8 1, .int .u8 0, .int .u8 0, .int .u8 0, .int .u8 0, .int .u8 0, .int .u8 0, .int .u8 0, .int .u8 0, .int .u8 0, .int .u8 0, .int .u8 0, .int .u8 0, .int .u8 0, .int .u8 0, .int .u8 0, .int .u8 0, .int .u8 0, .int .u8 0, .int .u8 0, .int .u8 0, .int .u8 0, .int .u8 0, .int .u8 0, .int .u8 0, .int .u8 0, .int .u8 0, .int .u8 0, .int .u8 0, .int .u8 0, .int .u8 0, .int .u8 0]) = .agg (w8 sk).toArray := rfl
theorem zz_lit : (Value.agg #[.int .u8 0, .int .u8 0, .int .u8 0, .int .u8 0, .int .u8 0, .int .u8 0, .int .u8 0, .int .u8 0, .int .u8 0, .int .u8 0, .int .u8 0, .int .u8 0, .int .u8 0, .int .u8 0, .int .u8 0, .int .u8 0, .int .u8 0, .int .u8 0, .int .u8 0, .int .u8 0, .int .u8 0, .int .u8 0, .int .u8 0, .int .u8 0, .int .u8 0, .int .u8 0, .int .u8 0, .int .u8 0, .int .u8 0, .int .u8 0, .int .u8 0, .int .u8 0]) = .agg (w8 z32).toArray := rfl
theorem z32_lt : ∀ x ∈ z32, x < 256 := by decide

set_option maxRecDepth 100000 in
set_option maxHeartbeats 4000000 in
theorem to_any (id side amt ex : Int) (h : List Nat) (w : World) (hl : h.length = 32) : Calls Tryd.prog 16 #[.agg (ccells id side amt h ex).toArray] w fun e w' => e = .returned (.agg (ccells id side amt h ex).toArray) ∧ Below w.heap.size w w' := by
  have hb := fun W => built59' id side amt h hl ex W
  have hcl := ccells_length id side amt h ex hl
  have hco := ccells_one id side amt h ex
  have hz59 : (Tryd.prog.info? 59).map (·.size) = some (ccells id side amt h ex).toArray.size := by rw [List.size_toArray, hcl]; exact info59
  have hzz : (#[.int .u64 0, .int .i64 0, .int .u64 0, .int .u8 0, .int .u8 0, .int .u8 0, .int .u8 0, .int .u8 0, .int .u8 0, .int .u8 0, .int .u8 0, .int .u8 0, .int .u8 0, .int .u8 0, .int .u8 0, .int .u8 0, .int .u8 0, .int .u8 0, .int .u8 0, .int .u8 0, .int .u8 0, .int .u8 0, .int .u8 0, .int .u8 0, .int .u8 0, .int .u8 0, .int .u8 0, .int .u8 0, .int .u8 0, .int .u8 0, .int .u8 0, .int .u8 0, .int .u8 0, .int .u8 0, .int .u8 0, .int .u64 0] : Array Value).size = (ccells id side amt h ex).toArray.size := by rw [show (ccells id side amt h ex).toArray.size = 36 by rw [List.size_toArray, hcl]]; rfl
  have h35 : (ccells id side amt h ex)[35]? = some (.int .u64 ex) := by
    unfold ccells
    rw [List.getElem?_append_right (by simp [w8_length, hl])]
    simp [w8_length, hl]
  have h0 : (ccells id side amt h ex)[0]? = some (.int .u64 id) := rfl
  have h1 : (ccells id side amt h ex)[1]? = some (.int .i64 side) := rfl
  have h2 : (ccells id side amt h ex)[2]? = some (.int .u64 amt) := rfl
  go_enter Tryd.func16, Tryd.ntmps16
  go_upto_region 1 with fail
  have hH := (Blk.new w 56 (ccells id side amt h ex)).alloc (.cells #[.int .u64 0, .int .i64 0, .int .u64 0, .int .u8 0, .int .u8 0, .int .u8 0, .int .u8 0, .int .u8 0, .int .u8 0, .int .u8 0, .int .u8 0, .int .u8 0, .int .u8 0, .int .u8 0, .int .u8 0, .int .u8 0, .int .u8 0, .int .u8 0, .int .u8 0, .int .u8 0, .int .u8 0, .int .u8 0, .int .u8 0, .int .u8 0, .int .u8 0, .int .u8 0, .int .u8 0, .int .u8 0, .int .u8 0, .int .u8 0, .int .u8 0, .int .u8 0, .int .u8 0, .int .u8 0, .int .u8 0, .int .u64 0] 59)
  have hR : Blk ((w.alloc (.cells (ccells id side amt h ex).toArray 56)).alloc (.cells #[.int .u64 0, .int .i64 0, .int .u64 0, .int .u8 0, .int .u8 0, .int .u8 0, .int .u8 0, .int .u8 0, .int .u8 0, .int .u8 0, .int .u8 0, .int .u8 0, .int .u8 0, .int .u8 0, .int .u8 0, .int .u8 0, .int .u8 0, .int .u8 0, .int .u8 0, .int .u8 0, .int .u8 0, .int .u8 0, .int .u8 0, .int .u8 0, .int .u8 0, .int .u8 0, .int .u8 0, .int .u8 0, .int .u8 0, .int .u8 0, .int .u8 0, .int .u8 0, .int .u8 0, .int .u8 0, .int .u8 0, .int .u64 0] 59)) (w.heap.size + 1) 59 [.int .u64 0, .int .i64 0, .int .u64 0, .int .u8 0, .int .u8 0, .int .u8 0, .int .u8 0, .int .u8 0, .int .u8 0, .int .u8 0, .int .u8 0, .int .u8 0, .int .u8 0, .int .u8 0, .int .u8 0, .int .u8 0, .int .u8 0, .int .u8 0, .int .u8 0, .int .u8 0, .int .u8 0, .int .u8 0, .int .u8 0, .int .u8 0, .int .u8 0, .int .u8 0, .int .u8 0, .int .u8 0, .int .u8 0, .int .u8 0, .int .u8 0, .int .u8 0, .int .u8 0, .int .u8 0, .int .u8 0, .int .u64 0] := Blk.mk_ (cs := [.int .u64 0, .int .i64 0, .int .u64 0, .int .u8 0, .int .u8 0, .int .u8 0, .int .u8 0, .int .u8 0, .int .u8 0, .int .u8 0, .int .u8 0, .int .u8 0, .int .u8 0, .int .u8 0, .int .u8 0, .int .u8 0, .int .u8 0, .int .u8 0, .int .u8 0, .int .u8 0, .int .u8 0, .int .u8 0, .int .u8 0, .int .u8 0, .int .u8 0, .int .u8 0, .int .u8 0, .int .u8 0, .int .u8 0, .int .u8 0, .int .u8 0, .int .u8 0, .int .u8 0, .int .u8 0, .int .u8 0, .int .u64 0]) (by simp)
  have B : Hid (Below w.heap.size w ((w.alloc (.cells (ccells id side amt h ex).toArray 56)).alloc (.cells #[.int .u64 0, .int .i64 0, .int .u64 0, .int .u8 0, .int .u8 0, .int .u8 0, .int .u8 0, .int .u8 0, .int .u8 0, .int .u8 0, .int .u8 0, .int .u8 0, .int .u8 0, .int .u8 0, .int .u8 0, .int .u8 0, .int .u8 0, .int .u8 0, .int .u8 0, .int .u8 0, .int .u8 0, .int .u8 0, .int .u8 0, .int .u8 0, .int .u8 0, .int .u8 0, .int .u8 0, .int .u8 0, .int .u8 0, .int .u8 0, .int .u8 0, .int .u8 0, .int .u8 0, .int .u8 0, .int .u8 0, .int .u64 0] 59))) := Lib.hid (((Below.refl _ _).alloc (Nat.le_refl _) _).alloc (by simp) _)
  generalize (w.alloc (.cells (ccells id side amt h ex).toArray 56)).alloc (.cells #[.int .u64 0, .int .i64 0, .int .u64 0, .int .u8 0, .int .u8 0, .int .u8 0, .int .u8 0, .int .u8 0, .int .u8 0, .int .u8 0, .int .u8 0, .int .u8 0, .int .u8 0, .int .u8 0, .int .u8 0, .int .u8 0, .int .u8 0, .int .u8 0, .int .u8 0, .int .u8 0, .int .u8 0, .int .u8 0, .int .u8 0, .int .u8 0, .int .u8 0, .int .u8 0, .int .u8 0, .int .u8 0, .int .u8 0, .int .u8 0, .int .u8 0, .int .u8 0, .int .u8 0, .int .u8 0, .int .u8 0, .int .u64 0] 59) = V at hH hR B ⊢
  have c0 := hH.cell 0
  have c1 := hH.cell 1
  have c2 := hH.cell 2
  have c35 := hH.cell 35
  rw [h0] at c0
  rw [h1] at c1
  rw [h2] at c2
  rw [h35] at c35
  have hrg : V.rangeAt w.heap.size 3 (w8 h) := by
    have h1 := hH.range 3 32
    rw [ccells, List.append_assoc, List.drop_left' (by rfl), List.take_left' (by rw [w8_length, hl])] at h1
    exact h1
  have hR9 : V.heap[w.heap.size + 1]? = some (.cells #[.int .u64 0, .int .i64 0, .int .u64 0, .int .u8 0, .int .u8 0, .int .u8 0, .int .u8 0, .int .u8 0, .int .u8 0, .int .u8 0, .int .u8 0, .int .u8 0, .int .u8 0, .int .u8 0, .int .u8 0, .int .u8 0, .int .u8 0, .int .u8 0, .int .u8 0, .int .u8 0, .int .u8 0, .int .u8 0, .int .u8 0, .int .u8 0, .int .u8 0, .int .u8 0, .int .u8 0, .int .u8 0, .int .u8 0, .int .u8 0, .int .u8 0, .int .u8 0, .int .u8 0, .int .u8 0, .int .u8 0, .int .u64 0] 59 (0, 0)) := hR
  clear h0 h1 h2 h35
  go_wp2_with (first | (refine wpList_load_mid rfl 35 (.tmp 9) rfl w.heap.size 3 rfl (w8 h) _ hrg Tryd.underlying35 rfl (by rw [w8_length, hl]; exact info35) ?_) | (refine wpList_build_v rfl 59 _ rfl #[(0, .int .u64 id), (1, .int .i64 side), (2, .int .u64 amt), (3, .agg (w8 h).toArray), (4, .int .u64 ex)] (by simp [Act.eval]) _ (hb _) ?_) | (refine wpList_store_row rfl 59 (.tmp 2) (.tmp 13) rfl (w.heap.size + 1) (ccells id side amt h ex).toArray rfl rfl 59 _ hR9 hz59 hzz hco ?_))
  exact bodyPost_ret (results_cell_row Tryd.results16 _ _ (w.heap.size + 1) 59 (ccells id side amt h ex).toArray (0, 0) _ rfl (hR.setRow _) Tryd.underlying59 rfl hz59) rfl ⟨rfl, below_setRow B.out (by omega) _⟩

def dk : List Nat := hsh sk

set_option maxRecDepth 100000 in
set_option maxHeartbeats 4000000 in
theorem awake_any (w : World) (HT : Hid (Tab w)) : Calls Tryd.prog 6 #[] w fun e w' => e = .returned (.bool true) ∧ Below w.heap.size w w' := by
  go_enter Tryd.func6, Tryd.ntmps6
  go_wp2_with fail
  refine (notary_new w).mono ?_
  rintro e V ⟨g, b, rfl, hN, hM, hB, hgb1, hgb2⟩
  have BV := Lib.hid hB
  have NV := Lib.hid hN
  have MV := Lib.hid hM
  have TV := HT.out.below hB HT.out.lt
  have hgb : g ≠ b := by
    rintro rfl
    obtain ⟨es, clock, hh, _⟩ := hM.ex
    rw [hN] at hh
    cases hh
  have HGB := Lib.hid (⟨hgb1, hgb2⟩ : w.heap.size ≤ b ∧ w.heap.size ≤ g)
  clear hN hM hB hgb1 hgb2
  go_wp2_with fail
  rw [sk_lit]
  refine (tell_any g b [] sk 6 V (Lib.hid TV) NV MV ⟨by simp, by simp⟩ hgb sk_length sk_lt).mono ?_
  rintro e V1 ⟨rfl, hN, hM, hG⟩
  have BV1 := Lib.hid (BV.out.grown hG BV.out.size (fun k hk => by injection hk with hk; subst hk; exact HGB.out.1))
  have TV1 : Tab V1 := HT.out.below BV1.out HT.out.lt
  have NV1 := Lib.hid hN
  have TT0 : tellT [] sk 6 = [(dk, sk, 6)] := rfl
  rw [TT0] at hM
  have MV1 := Lib.hid hM
  rw [show (if isIn [] (hsh sk) = true then (7 : Int) else 0) = 0 from rfl]
  clear hN hM hG BV NV MV TV TT0
  go_wp2_with fail
  rw [sk_lit]
  refine (lock_any sk V1 (Lib.hid TV1) (Lib.hid sk_length) (Lib.hid sk_lt)).mono ?_
  rintro e V2 ⟨rfl, hB⟩
  rw [show sha (text 6 [sk]) = dk from rfl]
  have BV2 := Lib.hid (BV1.out.trans (hB.mono BV1.out.size))
  have NV2 := Lib.hid (NV1.out.below hB NV1.out.lt)
  have MV2 := Lib.hid (MV1.out.below hB)
  clear BV1 NV1 MV1 TV1 hB
  have hdl : dk.length = 32 := hsh_length sk
  obtain ⟨TT, hTT⟩ : ∃ t : List (List Nat × List Nat × Int), [(dk, sk, (6 : Int))] = t := ⟨_, rfl⟩
  have hlk : lookB TT dk = some (sk, 6) := by rw [← hTT]; simp [lookB]
  have e1 : isIn TT dk = true := by unfold isIn; rw [hlk]; rfl
  have e2 : htOf TT dk = 6 := by unfold htOf; rw [hlk]
  have e3 : (TT.map tv).length = 1 := by rw [← hTT]; rfl
  have OKT : Hid (Okay TT) := Lib.hid (by rw [← hTT]; exact ⟨by simp [sk_length], by simp⟩)
  rw [hTT] at MV2
  have hcl := ccells_length 0 0 0 dk 5 hdl
  have hco := ccells_one 0 0 0 dk 5
  have hz59 : (Tryd.prog.info? 59).map (·.size) = some (ccells 0 0 0 dk 5).toArray.size := by rw [List.size_toArray, hcl]; exact info59
  have hzz : (#[.int .u64 0, .int .i64 0, .int .u64 0, .int .u8 0, .int .u8 0, .int .u8 0, .int .u8 0, .int .u8 0, .int .u8 0, .int .u8 0, .int .u8 0, .int .u8 0, .int .u8 0, .int .u8 0, .int .u8 0, .int .u8 0, .int .u8 0, .int .u8 0, .int .u8 0, .int .u8 0, .int .u8 0, .int .u8 0, .int .u8 0, .int .u8 0, .int .u8 0, .int .u8 0, .int .u8 0, .int .u8 0, .int .u8 0, .int .u8 0, .int .u8 0, .int .u8 0, .int .u8 0, .int .u8 0, .int .u8 0, .int .u64 0] : Array Value).size = (ccells 0 0 0 dk 5).toArray.size := by rw [show (ccells 0 0 0 dk 5).toArray.size = 36 by rw [List.size_toArray, hcl]]; rfl
  have HLA := heap_alloc_last V2 (.cells #[.int .u64 0, .int .i64 0, .int .u64 0, .int .u8 0, .int .u8 0, .int .u8 0, .int .u8 0, .int .u8 0, .int .u8 0, .int .u8 0, .int .u8 0, .int .u8 0, .int .u8 0, .int .u8 0, .int .u8 0, .int .u8 0, .int .u8 0, .int .u8 0, .int .u8 0, .int .u8 0, .int .u8 0, .int .u8 0, .int .u8 0, .int .u8 0, .int .u8 0, .int .u8 0, .int .u8 0, .int .u8 0, .int .u8 0, .int .u8 0, .int .u8 0, .int .u8 0, .int .u8 0, .int .u8 0, .int .u8 0, .int .u64 0] 59)
  clear hTT hlk
  go_upto_region 4 with (first | (refine wpList_build_v rfl 59 _ rfl #[(3, .agg (w8 dk).toArray), (4, .int .u64 5)] (by simp [Act.eval]) _ (built59 dk hdl 5 _) ?_) | (refine wpList_store_row rfl 59 (.tmp 3) (.tmp 10) rfl V2.heap.size (ccells 0 0 0 dk 5).toArray rfl rfl 59 _ HLA hz59 hzz hco ?_; rw [World.setRow_alloc_new]))
  have hB3 : Below V2.heap.size V2 (V2.alloc (.cells (ccells 0 0 0 dk 5).toArray 59)) := (Below.refl _ _).alloc (Nat.le_refl _) _
  have BV3 := Lib.hid (BV2.out.trans (hB3.mono BV2.out.size))
  have NV3 := Lib.hid (NV2.out.below hB3 NV2.out.lt)
  have MV3 := Lib.hid (MV2.out.below hB3)
  have CV3 : Hid (Blk (V2.alloc (.cells (ccells 0 0 0 dk 5).toArray 59)) V2.heap.size 59 (ccells 0 0 0 dk 5)) := Lib.hid (Blk.new V2 59 (ccells 0 0 0 dk 5))
  clear BV2 NV2 MV2 HLA hB3
  generalize V2.alloc (.cells (ccells 0 0 0 dk 5).toArray 59) = V3 at BV3 NV3 MV3 CV3 ⊢
  generalize V2.heap.size = gc at CV3 ⊢
  go_wp2_with (first | (refine wpList_load_rowG rfl 59 (.tmp 3) rfl gc rfl 59 (ccells 0 0 0 dk 5).toArray (0, 0) _ CV3.out Tryd.underlying59 rfl hz59 ?_))
  refine (of_of (.pointer (some ⟨g, 0, none⟩)) dk (sOf TT dk) (htOf TT dk) (isIn TT dk) 0 0 0 5 5 V3 (hsh_length sk) (sOf_length TT dk OKT.out) (Lib.hid (Finds.any dk NV3.out MV3.out OKT.out (hsh_length sk) (hsh_lt sk)))).mono ?_
  rintro e V4 ⟨rfl, hB⟩
  have BV4 := Lib.hid (BV3.out.trans (hB.mono BV3.out.size))
  have NV4 := Lib.hid (NV3.out.below hB NV3.out.lt)
  have MV4 := Lib.hid (MV3.out.below hB)
  have CV4 := Lib.hid (CV3.out.below hB CV3.out.lt)
  clear BV3 NV3 MV3 CV3 hB
  rw [e1, e2, show verd true 6 5 5 = 0 from rfl]
  go_wp2_with (first | (refine wpList_load_rowG rfl 59 (.tmp 3) rfl gc rfl 59 (ccells 0 0 0 dk 5).toArray (0, 0) _ CV4.out Tryd.underlying59 rfl hz59 ?_))
  refine (of_of (.pointer (some ⟨g, 0, none⟩)) dk (sOf TT dk) (htOf TT dk) (isIn TT dk) 0 0 0 5 6 V4 (hsh_length sk) (sOf_length TT dk OKT.out) (Lib.hid (Finds.any dk NV4.out MV4.out OKT.out (hsh_length sk) (hsh_lt sk)))).mono ?_
  rintro e V5 ⟨rfl, hB⟩
  have BV5 := Lib.hid (BV4.out.trans (hB.mono BV4.out.size))
  have NV5 := Lib.hid (NV4.out.below hB NV4.out.lt)
  have MV5 := Lib.hid (MV4.out.below hB)
  have CV5 := Lib.hid (CV4.out.below hB CV4.out.lt)
  clear BV4 NV4 MV4 CV4 hB
  rw [e1, e2, show verd true 6 5 6 = 2 from rfl]
  go_wp2_with fail
  refine (many_any g b (TT.map tv) V5 NV5 MV5).mono ?_
  rintro e V6 ⟨rfl, rfl⟩
  rw [e3]
  go_wp2
  go_ret
  exact ⟨rfl, BV5.out⟩
end Go.Proofs.YteoeoomdjfhmbaaDoor
