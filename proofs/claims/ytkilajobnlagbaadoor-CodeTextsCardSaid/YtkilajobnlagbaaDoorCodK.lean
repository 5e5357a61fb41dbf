/-
  ordersOf, whatever it is given; Check.
-/
import Derived.Test.YtkilajobnlagbaaDoorCodJ
namespace Go.Proofs.YtkilajobnlagbaaDoor
open Go.RowKit
set_option linter.unusedVariables false

theorem info58b : (Tryd.prog.info? 58).map (fun i => (i.zero, i.size, i.bytes)) = some (some (.agg ordZero.toArray), 7, 64) := by kernel_rfl
theorem info4b : (Tryd.prog.info? 4).map (fun i => (i.zero, i.size, i.bytes)) = some (some (.bool false), 1, 1) := by kernel_rfl
theorem wpList_lay_v {P : Program} {w : World} {ops : Array Oper} {rest : List Oper} {o : Oper} {a : Act} {Q : Exit → Act → World → Prop} (hgd : o.guard = none) (t len : Nat) (parts : Array (Nat × Operand)) (ho : o.op = .buildSlice t len parts)
    (vals : Array (Nat × Value)) (hv : (parts.map fun (i, x) => (i, a.eval x)) = vals) (v : Value) (W : World) (hb : (Instr.buildSlice t len vals).run P w = .ok v W) (h : wpList P ops Q rest (a.put o.dst v) W) : wpList P ops Q (o :: rest) a w := by
  refine wpList_plain hgd fun K hK => ?_
  unfold Oper.wp
  have e : (execOp a.eval o).run P w = .ok (.value v) W := by
    unfold execOp
    simp only [ho, hv, Sem.run_bind, hb, Result.andThen_ok, Sem.run_pure]
  rw [e]
  exact hK _ _ h
theorem lay58 (a b c d e f g : Value) (w : World) : (Instr.buildSlice 70 1 #[(0, .agg #[a, b, c, d, e, f, g])]).run Tryd.prog w = .ok (.slice (some ⟨w.heap.size, 0, none⟩) 1 1) (w.alloc (.cells #[a, b, c, d, e, f, g] 58)) := by
  kernel_rfl

theorem own_slice {w : World} {b e z n : Nat} {v : Value} {xs : List Value} (h : w.ownsRow b e z v n xs) : ∃ A c, v = .slice A n c ∧ (0 < n → ∃ g, A = some ⟨g, 0, none⟩ ∧ b ≤ g) ∧ n ≤ 9223372036854775807 := by
  rcases h.2 with ⟨rfl, rfl⟩ | ⟨g, cap, cur, rfl, hb, _, h4, h5, _⟩
  · exact ⟨_, _, rfl, fun h => absurd h (Nat.lt_irrefl _), by omega⟩
  · exact ⟨_, _, rfl, fun _ => ⟨g, rfl, hb⟩, by unfold maxLen at h5; omega⟩
theorem own_below {w w' : World} {b e z n : Nat} {v : Value} {xs : List Value} (h : w.ownsRow b e z v n xs) (hB : Below w.heap.size w w') : w'.ownsRow b e z v n xs :=
  h.kept (Oct.Below.grownBy hB none) (by
    cases hv : v.ownBlock with
    | none => exact .inl rfl
    | some k => exact .inr (by simp))
theorem own_range {w : World} {b g n c : Nat} {p : List Int} {bs : List Nat} (h : w.ownsRow b 58 7 (.slice (some ⟨g, 0, none⟩) n c) n (oflat p bs)) (i : Nat) (hi : i < bs.length) (hn : bs.length = n) : w.rangeAt g (i * 7) (cellsAt p (bs.getD i 0)) := by
  intro j v hv
  have hj : j < 7 := by
    have := (List.getElem?_eq_some_iff.1 hv).1
    rwa [cellsAt_length] at this
  rw [h.cellAt (i * 7 + j) (by omega), oflat_get p bs i j hi hj]
  exact hv

theorem own_ge {w : World} {b e z n : Nat} {v : Value} {xs : List Value} (h : w.ownsRow b e z v n xs) : ∀ j, v.ownBlock = some j → b ≤ j := by
  intro j hj
  rcases h.2 with ⟨rfl, _⟩ | ⟨g, cap, cur, rfl, hb, _⟩
  · simp [Value.ownBlock] at hj
  · have : g = j := by simpa [Value.ownBlock] using hj
    omega
theorem own_ne4 {w : World} {g b n : Nat} {v : Value} {xs cs : List Value} (hB : Blk w g 4 cs) (hO : w.ownsRow b 58 7 v n xs) : some g ≠ v.ownBlock := by
  rcases hO.2 with ⟨rfl, _⟩ | ⟨g', cap, cur, rfl, _, hg, _⟩
  · simp [Value.ownBlock]
  · intro h
    have : g = g' := by simpa [Value.ownBlock] using h
    subst this
    unfold Blk at hB
    rw [hB] at hg
    injection hg with hg
    injection hg with _ hg
    cases hg

/-- What comes of the beginnings. -/
def ordsW (p : List Int) (R : Int × List Nat) : Int × List Nat := if R.1 ≠ 0 then (R.1, []) else if R.2.any (lost p R.2) then (10, []) else (0, R.2)
theorem ordsV_le (p : List Int) (h : ¬ 256 < p.length) : ordsV p = ordsW p (begF p (p.length + 1) 0 []) := by unfold ordsV ordsW; rw [if_neg h]
theorem mkBegs {w : World} {b n : Nat} (h : w.ownsRow b 4 1 (.slice (some ⟨b, 0, none⟩) n n) n (madeCells (#[.bool false] : Array Value) (n * 1)).toList) : Blk w b 4 (begs n []) := by
  rcases h.2 with ⟨h1, _⟩ | ⟨g, cap, cur, h1, h2, h3, h4, h5, h6, h7⟩
  · cases h1
  · injection h1 with h1 h8 h9
    injection h1 with h1
    injection h1 with h1
    subst h1 h9
    have e : cur.toList = begs n [] := by
      rw [begs_new, ← List.take_of_length_le (l := cur.toList) (i := n * 1) (by simp; omega), h7]
      apply List.ext_getElem?
      intro i
      by_cases hi : i < n
      · simp [madeCells, hi, Nat.mod_one]
      · simp [madeCells, hi]
    unfold Blk
    rw [h3, ← e]

set_option maxRecDepth 100000 in
set_option maxHeartbeats 4000000 in
theorem ordersOf_any (A : Option Addr) (n c : Nat) (p : List Int) (w : World) (HP : Hid (Pg w A n c p)) (HT : Hid (KTab w)) :
    Calls Tryd.prog 29 #[.slice A n c] w fun e w' => ∃ v, e = .returned (.tuple #[v, .int .i64 (ordsV p).1]) ∧ w'.ownsRow w.heap.size 58 7 v (ordsV p).2.length (oflat p (ordsV p).2) ∧ Below w.heap.size w w' := by
  have hl := HP.out.len
  by_cases h : 256 < n
  · have e : ordsV p = (1, []) := by unfold ordsV; rw [if_pos (by omega)]
    rw [e]
    have d1 : (256 : Int) < (n : Int) := by omega
    clear HP HT h e
    go_enter Tryd.func29, Tryd.ntmps29
    go_wp2
    go_ret2
    exact ⟨_, rfl, World.ownsRow_nil _ _ _ _, Below.refl _ _⟩
  · have d1 : ¬ ((256 : Int) < (n : Int)) := by omega
    rw [ordsV_le p (by omega)]
    obtain ⟨R, hR⟩ : ∃ x, begF p (p.length + 1) 0 [] = x := ⟨_, rfl⟩
    rw [hR]
    have HR := Lib.hid hR
    clear hR
    obtain ⟨i4, hi4, hzz⟩ := Option.map_eq_some_iff.1 info4b
    simp only [Prod.mk.injEq] at hzz
    obtain ⟨hz0, hz1, hz2⟩ := hzz
    go_enter Tryd.func29, Tryd.ntmps29
    go_wp2_with (at_make; refine wpList_make_full _ rfl (.tmp 15) (.tmp 15) 24 rfl w.heap.size 4 i4 (.bool false) 1 Tryd.underlying24 hi4 hz0 hz1 .i64 .i64 _ _ n rfl rfl ?c1 ?c2 ?c3 ?c4 ?c5 ?_)
    all_goals first | exact Nat.le_refl _ | rfl | omega | (rw [hz2]; omega) | (unfold maxLen; omega) | skip
    intro w1 hown hg
    have B1 : Hid (Below w.heap.size w w1) := Lib.hid ((Below.refl _ _).grown hg (Nat.le_refl _) (by simp))
    have G1 : Hid (Blk w1 w.heap.size 4 (begs n [])) := Lib.hid (mkBegs (by rw [Nat.mul_one]; exact hown))
    clear hown hg hi4 hz0 hz1 hz2
    go_wp2
    go_loopw [4, 6] (fun v t wr => ∃ (bs : List Nat) (k f : Nat), t = .int .i64 k ∧ k ≤ n ∧ bs.length ≤ k ∧ n < f + k ∧ Hid (begF p f k bs = R) ∧ Hid (wr.ownsRow w.heap.size 58 7 v bs.length (oflat p bs)) ∧ Hid (Blk wr w.heap.size 4 (begs n bs)) ∧ Hid (∀ b ∈ bs, ordE p b = 0) ∧ Hid (Below w.heap.size w wr)) (fun _ t _ => n - (intOf t).toNat)
    case atStart => exact ⟨[], 0, n + 1, rfl, by omega, by simp, by omega, by rw [← hl]; exact HR, Lib.hid (World.ownsRow_nil _ _ _ _), G1, Lib.hid (by simp), B1⟩
    case round =>
      obtain ⟨bs, k, f, rfl, hk, hbl, hf, HR2, HO, HG, HE, HB⟩ := hrel
      obtain ⟨f, rfl⟩ : ∃ f', f = f' + 1 := ⟨f - 1, by omega⟩
      have hR := HR2.out
      rw [begF] at hR
      by_cases hlt : k < n
      · rw [if_neg (by omega)] at hR
        have hOA := Lib.hid (orderAt_any A n c k p wr (Lib.hid (HP.out.below HB.out)) (Lib.hid (HT.out.below HB.out HT.out.lt)) (by omega))
        have hLA := fun (W : World) => heap_alloc_last W (.cells ordZero.toArray 58)
        have hov1 := ordV_one p k
        have hov7 := ordV_length p k
        have k0 : (0 : Int) ≤ (k : Int) := Int.natCast_nonneg _
        have kn : (k : Int) < (n : Int) := by omega
        by_cases hE : ordE p k = 0
        · obtain ⟨hop18, hble⟩ := ord_ok hE
          obtain ⟨num, hnu, hnum, _⟩ := num_nat HP.out k
          rw [if_neg (by simpa using hE)] at hR
          have hv : ordV p k = ordCells (opAt p k) (numAt p k) (k + 1 + fol (opAt p k)) := by unfold ordV; rw [if_pos hE]
          have hcl : cellsAt p k = ordCells (opAt p k) (numAt p k) (k + 1 + fol (opAt p k)) := rfl
          have hsn := oflat_snoc p bs k
          rw [hcl] at hsn
          rw [hnu] at hv hsn
          have hbk : k < k + 1 + fol (opAt p k) := by omega
          obtain ⟨bh, hbh⟩ : ∃ x, k + 1 + fol (opAt p k) = x := ⟨_, rfl⟩
          rw [hbh] at hv hsn hR hble hbk
          obtain ⟨op, hop⟩ : ∃ x, opAt p k = x := ⟨_, rfl⟩
          rw [hop] at hv hsn
          unfold ordCells at hv hsn
          obtain ⟨F, hFe⟩ : ∃ x, fol op = x := ⟨_, rfl⟩
          obtain ⟨C, hCe⟩ : ∃ x, cst op = x := ⟨_, rfl⟩
          obtain ⟨TK, hTKe⟩ : ∃ x, tks op = x := ⟨_, rfl⟩
          obtain ⟨NM, hNMe⟩ : ∃ x, nm op = x := ⟨_, rfl⟩
          rw [hFe, hCe, hTKe, hNMe] at hv hsn
          rw [hE, hv] at hOA
          rw [hv] at hov1
          have HE2 : Hid (∀ b ∈ bs ++ [k], ordE p b = 0) := Lib.hid (by
            intro b hb
            rcases List.mem_append.1 hb with h | h
            · exact HE.out b h
            · simp at h; subst h; exact hE)
          clear hFe hCe hTKe hNMe hop hbh hnu hv hov7 hcl hE
          unfold ordZero at hLA
          have hz58 : (Tryd.prog.info? 58).map (·.size) = some (List.toArray [Value.int .i64 (op : Int), Value.string NM, Value.int .i64 (F : Int), Value.int .i64 (C : Int), Value.int .i64 (TK : Int), Value.int .u64 (num : Int), Value.int .i64 (bh : Int)]).size := info58
          have hzz : (#[.int .i64 0, .string ⟨#[]⟩, .int .i64 0, .int .i64 0, .int .i64 0, .int .u64 0, .int .i64 0] : Array Value).size = (List.toArray [Value.int .i64 (op : Int), Value.string NM, Value.int .i64 (F : Int), Value.int .i64 (C : Int), Value.int .i64 (TK : Int), Value.int .u64 (num : Int), Value.int .i64 (bh : Int)]).size := rfl
          obtain ⟨m, hme⟩ : ∃ m, bs.length = m := ⟨_, rfl⟩
          rw [hme] at HO hbl
          obtain ⟨Ao, co, rfl, hA, hm⟩ := own_slice HO.out
          have HME := Lib.hid hme
          clear hme hA
          go_wp2_with fail
          refine hOA.out.mono ?_
          rintro e w2 ⟨rfl, hB2⟩
          have HO2 := Lib.hid (own_below HO.out hB2)
          have HG2 := Lib.hid (HG.out.below hB2 HG.out.lt)
          have HB2 := Lib.hid (HB.out.trans (hB2.mono HB.out.size))
          have hLA2 := hLA w2
          clear hOA hB2 HO HG HB hLA
          go_upto_region 9 with (first | (refine wpList_store_row rfl 58 (.tmp 7) (.tmp 32) rfl w2.heap.size (List.toArray [Value.int .i64 (op : Int), Value.string NM, Value.int .i64 (F : Int), Value.int .i64 (C : Int), Value.int .i64 (TK : Int), Value.int .u64 (num : Int), Value.int .i64 (bh : Int)]) rfl rfl 58 _ hLA2 hz58 hzz hov1 ?_; rw [World.setRow_alloc_new]))
          have hBV : Below w2.heap.size w2 (w2.alloc (.cells (List.toArray [Value.int .i64 (op : Int), Value.string NM, Value.int .i64 (F : Int), Value.int .i64 (C : Int), Value.int .i64 (TK : Int), Value.int .u64 (num : Int), Value.int .i64 (bh : Int)]) 58)) := (Below.refl _ _).alloc (Nat.le_refl _) _
          have O3 : Hid (Blk (w2.alloc (.cells (List.toArray [Value.int .i64 (op : Int), Value.string NM, Value.int .i64 (F : Int), Value.int .i64 (C : Int), Value.int .i64 (TK : Int), Value.int .u64 (num : Int), Value.int .i64 (bh : Int)]) 58)) w2.heap.size 58 [Value.int .i64 (op : Int), Value.string NM, Value.int .i64 (F : Int), Value.int .i64 (C : Int), Value.int .i64 (TK : Int), Value.int .u64 (num : Int), Value.int .i64 (bh : Int)]) := Lib.hid (Blk.new w2 58 [Value.int .i64 (op : Int), Value.string NM, Value.int .i64 (F : Int), Value.int .i64 (C : Int), Value.int .i64 (TK : Int), Value.int .u64 (num : Int), Value.int .i64 (bh : Int)])
          have HO3 := Lib.hid (own_below HO2.out hBV)
          have HG3 := Lib.hid (HG2.out.below hBV HG2.out.lt)
          have HB3 := Lib.hid (HB2.out.trans (hBV.mono HB2.out.size))
          have hgo := Nat.lt_of_lt_of_le HG2.out.lt (Nat.le_refl _)
          clear hBV hz58 hzz hov1 hLA2 HO2 HG2 HB2
          generalize hV : w2.alloc (.cells (List.toArray [Value.int .i64 (op : Int), Value.string NM, Value.int .i64 (F : Int), Value.int .i64 (C : Int), Value.int .i64 (TK : Int), Value.int .u64 (num : Int), Value.int .i64 (bh : Int)]) 58) = V at O3 HO3 HG3 HB3 ⊢
          clear hV
          generalize w2.heap.size = go at O3 hgo ⊢
          have cG := HG3.out.cell k
          rw [begs_get n k bs hlt] at cG
          have fG := HG3.out.frozen k
          have hne3 := own_ne4 HG3.out HO3.out
          go_upto_region 12 with fail
          have hGr : V.grownBy (V.setCell ⟨w.heap.size, k, none⟩ (.bool true)) (some w.heap.size) := only_setCell (p := ⟨w.heap.size, k, none⟩) (only_refl V (some w.heap.size)) (.inl rfl) (.bool true)
          have O4 : Hid (Blk (V.setCell ⟨w.heap.size, k, none⟩ (.bool true)) go 58 [Value.int .i64 (op : Int), Value.string NM, Value.int .i64 (F : Int), Value.int .i64 (C : Int), Value.int .i64 (TK : Int), Value.int .u64 (num : Int), Value.int .i64 (bh : Int)]) := Lib.hid (O3.out.grown hGr (by intro e; injection e with e; omega))
          have HO4 : Hid ((V.setCell ⟨w.heap.size, k, none⟩ (.bool true)).ownsRow w.heap.size 58 7 (.slice Ao m co) m (oflat p bs)) := Lib.hid (HO3.out.kept hGr (.inr (fun e => hne3 e.symm)))
          have HG4 : Hid (Blk (V.setCell ⟨w.heap.size, k, none⟩ (.bool true)) w.heap.size 4 (begs n (bs ++ [k]))) := Lib.hid (by rw [← begs_set]; exact HG3.out.set_ k _)
          have HB4 : Hid (Below w.heap.size w (V.setCell ⟨w.heap.size, k, none⟩ (.bool true))) := Lib.hid (HB3.out.grown hGr HB3.out.size (fun j hj => by injection hj with hj; omega))
          clear hGr O3 HO3 HG3 HB3 cG fG hne3
          generalize V.setCell ⟨w.heap.size, k, none⟩ (.bool true) = X at O4 HO4 HG4 HB4 ⊢
          have oc0 := Blk.cell O4.out 0
          have oc1 := Blk.cell O4.out 1
          have oc2 := Blk.cell O4.out 2
          have oc3 := Blk.cell O4.out 3
          have oc4 := Blk.cell O4.out 4
          have oc5 := Blk.cell O4.out 5
          have oc6 := Blk.cell O4.out 6
          simp only [List.getElem?_cons_zero, List.getElem?_cons_succ] at oc0 oc1 oc2 oc3 oc4 oc5 oc6
          have hBX : Below X.heap.size X (X.alloc (.cells (List.toArray [Value.int .i64 (op : Int), Value.string NM, Value.int .i64 (F : Int), Value.int .i64 (C : Int), Value.int .i64 (TK : Int), Value.int .u64 (num : Int), Value.int .i64 (bh : Int)]) 58)) := (Below.refl _ _).alloc (Nat.le_refl _) _
          have hNB := Blk.new X 58 [Value.int .i64 (op : Int), Value.string NM, Value.int .i64 (F : Int), Value.int .i64 (C : Int), Value.int .i64 (TK : Int), Value.int .u64 (num : Int), Value.int .i64 (bh : Int)]
          have HO5 := own_below HO4.out hBX
          have HG5 := HG4.out.below hBX HG4.out.lt
          have HB5 := HB4.out.trans (hBX.mono HB4.out.size)
          obtain ⟨i0, hi, hzz⟩ := Option.map_eq_some_iff.1 info58b
          simp only [Prod.mk.injEq] at hzz
          obtain ⟨hz0, hz1, hz2⟩ := hzz
          obtain ⟨v2, Y, hr, h2, h3, _, _⟩ := run_append_own_at (P := Tryd.prog) (X.alloc (.cells (List.toArray [Value.int .i64 (op : Int), Value.string NM, Value.int .i64 (F : Int), Value.int .i64 (C : Int), Value.int .i64 (TK : Int), Value.int .u64 (num : Int), Value.int .i64 (bh : Int)]) 58)) w.heap.size 70 70 58 i0 (.agg ordZero.toArray) 7 64 Tryd.underlying70 hi hz0 hz1 hz2 rfl (by omega) _ m (oflat p bs) HO5 ⟨X.heap.size, 0, none⟩ 1 1 [Value.int .i64 (op : Int), Value.string NM, Value.int .i64 (F : Int), Value.int .i64 (C : Int), Value.int .i64 (TK : Int), Value.int .u64 (num : Int), Value.int .i64 (bh : Int)] rfl
            (fun j u hu => by rw [Go.WideShapes.add_plain, Nat.zero_add, hNB.cell]; exact hu) (ord_one _ _ _ _ _ _ _) (by unfold maxLen; omega) (by omega) HB5.size
          rw [hsn] at h2
          have hne5 := own_ne4 HG5 HO5
          have G6 : Hid (Blk Y w.heap.size 4 (begs n (bs ++ [k]))) := Lib.hid (HG5.grown h3 hne5)
          have B6 : Hid (Below w.heap.size w Y) := Lib.hid (HB5.grown h3 HB5.size (own_ge HO5))
          obtain ⟨A2, c2, rfl, hA2, hm2⟩ := own_slice h2
          obtain ⟨g2, rfl, hg2⟩ := hA2 (by omega)
          have hc6 : Y.cell? ⟨g2, m * 7 + 6, none⟩ = some (.int .i64 (bh : Int)) := by
            rw [h2.cellAt (m * 7 + 6) (by omega), ← hsn, List.getElem?_append_right (by rw [oflat_length, HME.out]; omega), oflat_length, HME.out, show m * 7 + 6 - m * 7 = 6 by omega]
            rfl
          have O6 := Lib.hid h2
          have hlay := lay58 (.int .i64 (op : Int)) (.string NM) (.int .i64 (F : Int)) (.int .i64 (C : Int)) (.int .i64 (TK : Int)) (.int .u64 (num : Int)) (.int .i64 (bh : Int)) X
          have hm1 : (m : Int) + 1 - 1 = (m : Int) := by omega
          clear h2 h3 hi hz0 hz1 hz2 HO5 HG5 HB5 hBX hNB hne5 HG4 HO4 HB4
          go_upto_region 7 with (first | (refine wpList_lay_v rfl 70 1 _ rfl #[(0, .agg #[.int .i64 (op : Int), .string NM, .int .i64 (F : Int), .int .i64 (C : Int), .int .i64 (TK : Int), .int .u64 (num : Int), .int .i64 (bh : Int)])] (by simp [Act.eval]) _ _ hlay ?_) | (at_builtin; refine wpList_append_v rfl (.tmp 40) (.tmp 42) 70 70 rfl (.slice (some ⟨g2, 0, none⟩) (m + 1) c2) Y hr ?_))
          have hlen2 : (bs ++ [k]).length = m + 1 := by simp [HME.out]
          have hs63 : (m : Int) + 1 ≤ 9223372036854775807 := by omega
          go_wp2
          go_roundw
          case rel => exact ⟨bs ++ [k], bh, f, by go_num, by omega, by rw [hlen2]; omega, by omega, Lib.hid hR, Lib.hid (by rw [hlen2]; exact O6.out), G6, HE2, B6⟩
          case measure => simp [intOf]; omega
        · have hz := ordZero_bad p k _ rfl hE
          rw [if_pos hE] at hR
          subst hR
          have e : ordsW p (ordE p k, []) = (ordE p k, []) := by unfold ordsW; rw [if_pos hE]
          rw [hz] at hOA hov1
          obtain ⟨E, hEe⟩ : ∃ x, ordE p k = x := ⟨_, rfl⟩
          rw [hEe] at hOA hE
          clear HR HR2 hov7
          unfold ordZero at hLA hOA hov1
          have hz58 : (Tryd.prog.info? 58).map (·.size) = some (List.toArray [Value.int .i64 0, Value.string ⟨#[]⟩, Value.int .i64 0, Value.int .i64 0, Value.int .i64 0, Value.int .u64 0, Value.int .i64 0]).size := info58
          have hEb : (E != 0) = true := by simpa using hE
          obtain ⟨Ao, co, rfl, hA, hm⟩ := own_slice HO.out
          go_wp2_with fail
          refine hOA.out.mono ?_
          rintro e2 w2 ⟨rfl, hB2⟩
          have HB2 := Lib.hid (HB.out.trans (hB2.mono HB.out.size))
          have hLA2 := hLA w2
          clear hOA hB2 HO HG HB hLA
          go_upto_region 9 with (first | (refine wpList_store_row rfl 58 (.tmp 7) (.tmp 32) rfl w2.heap.size (List.toArray [Value.int .i64 0, Value.string ⟨#[]⟩, Value.int .i64 0, Value.int .i64 0, Value.int .i64 0, Value.int .u64 0, Value.int .i64 0]) rfl rfl 58 _ hLA2 hz58 rfl hov1 ?_; rw [World.setRow_alloc_new]))
          go_wp2
          go_ret2
          rw [e, hEe]
          exact ⟨_, rfl, World.ownsRow_nil _ _ _ _, HB2.out.alloc HB2.out.size _⟩
      · obtain rfl : k = n := by omega
        rw [if_pos (by omega)] at hR
        subst hR
        obtain ⟨m, hme⟩ : ∃ m, bs.length = m := ⟨_, rfl⟩
        rw [hme] at HO hbl
        obtain ⟨Ao, co, rfl, hA, hm⟩ := own_slice HO.out
        have m0 : (0 : Int) ≤ (m : Int) := Int.natCast_nonneg _
        have HME := Lib.hid hme
        clear HR HR2 hme
        go_wp2
        go_loopw [46, 10] (fun i _ wq => ∃ (j : Nat), i = .int .i64 j ∧ j ≤ m ∧ Hid (∀ i, i < j → lost p bs (bs.getD i 0) = false) ∧ Hid (wq.ownsRow w.heap.size 58 7 (.slice Ao m co) m (oflat p bs)) ∧ Hid (Blk wq w.heap.size 4 (begs k bs)) ∧ Hid (Below w.heap.size w wq)) (fun i _ _ => m - (intOf i).toNat)
        case atStart => exact ⟨0, rfl, by omega, Lib.hid (by intro i hi; omega), HO, HG, HB⟩
        case round =>
          obtain ⟨j, rfl, hj, HL, HO2, HG2, HB2⟩ := hrel
          by_cases hjm : j < m
          · obtain ⟨g, rfl, hgb⟩ := hA (by omega)
            have hjb : j < bs.length := by rw [HME.out]; exact hjm
            have hrg := own_range HO2.out j hjb HME.out
            have hbm : bs.getD j 0 ∈ bs := by simp [List.getD, hjb]
            have hgl : g < wr.heap.size := by
              rcases HO2.out.2 with ⟨h1, _⟩ | ⟨g', cap, cur, h1, _, h3, _⟩
              · cases h1
              · injection h1 with h1
                injection h1 with h1
                injection h1 with h1
                subst h1
                exact Blk.lt (cs := cur.toList) (t := 58) (by unfold Blk; simpa using h3)
            obtain ⟨b, hbe⟩ : ∃ x, bs.getD j 0 = x := ⟨_, rfl⟩
            have hL1 := HL.out
            have hLs : ∀ q, lost p bs b = q → q = false → ∀ i, i < j + 1 → lost p bs (bs.getD i 0) = false := by
              intro q hq hf i hi
              by_cases e : i = j
              · subst e; rw [hbe, hq]; exact hf
              · exact hL1 i (by omega)
            rw [hbe] at hrg hbm
            obtain ⟨num, hnu, hnum, _⟩ := num_nat HP.out b
            unfold cellsAt ordCells at hrg
            have hlost : lost p bs b = (leapB (opAt p b) && (decide ((p.length : Int) ≤ (num : Int)) || !(bs.contains num))) := by unfold lost; rw [hnu, Int.toNat_natCast]
            rw [hl] at hlost
            have hany : lost p bs b = true → ordsW p (0, bs) = (10, []) := by
              intro h
              have : bs.any (lost p bs) = true := List.any_eq_true.2 ⟨b, hbm, h⟩
              unfold ordsW
              simp [this]
            rw [hnu] at hrg
            obtain ⟨bh, hbh⟩ : ∃ x, b + 1 + fol (opAt p b) = x := ⟨_, rfl⟩
            rw [hbh] at hrg
            have hop18 := (ord_ok (HE.out b hbm)).1
            obtain ⟨op, hop⟩ : ∃ x, opAt p b = x := ⟨_, rfl⟩
            rw [hop] at hrg hlost hop18
            obtain ⟨F, hF⟩ : ∃ x, fol op = x := ⟨_, rfl⟩
            obtain ⟨C, hC⟩ : ∃ x, cst op = x := ⟨_, rfl⟩
            obtain ⟨TK, hTK⟩ : ∃ x, tks op = x := ⟨_, rfl⟩
            obtain ⟨NM, hNM⟩ : ∃ x, nm op = x := ⟨_, rfl⟩
            rw [hF, hC, hTK, hNM] at hrg
            have hLA := fun (W : World) => heap_alloc_last W (.cells ordZero.toArray 58)
            unfold ordZero at hLA
            have hz58 : (Tryd.prog.info? 58).map (·.size) = some (List.toArray [Value.int .i64 (op : Int), Value.string NM, Value.int .i64 (F : Int), Value.int .i64 (C : Int), Value.int .i64 (TK : Int), Value.int .u64 (num : Int), Value.int .i64 (bh : Int)]).size := info58
            have hz58l : (Tryd.prog.info? 58).map (·.size) = some ([Value.int .i64 (op : Int), Value.string NM, Value.int .i64 (F : Int), Value.int .i64 (C : Int), Value.int .i64 (TK : Int), Value.int .u64 (num : Int), Value.int .i64 (bh : Int)]).length := info58
            have hzz : (#[.int .i64 0, .string ⟨#[]⟩, .int .i64 0, .int .i64 0, .int .i64 0, .int .u64 0, .int .i64 0] : Array Value).size = (List.toArray [Value.int .i64 (op : Int), Value.string NM, Value.int .i64 (F : Int), Value.int .i64 (C : Int), Value.int .i64 (TK : Int), Value.int .u64 (num : Int), Value.int .i64 (bh : Int)]).size := rfl
            have hov1 : (List.toArray [Value.int .i64 (op : Int), Value.string NM, Value.int .i64 (F : Int), Value.int .i64 (C : Int), Value.int .i64 (TK : Int), Value.int .u64 (num : Int), Value.int .i64 (bh : Int)]).all (·.oneCell') = true := all_one (ord_one _ _ _ _ _ _ _)
            have hrg2 : ∀ o, (wr.alloc o).rangeAt g (j * 7) [Value.int .i64 (op : Int), Value.string NM, Value.int .i64 (F : Int), Value.int .i64 (C : Int), Value.int .i64 (TK : Int), Value.int .u64 (num : Int), Value.int .i64 (bh : Int)] := fun o i v hv => (World.cell?_alloc_lt _ _ _ hgl).trans (hrg i v hv)
            have num0 : (0 : Int) ≤ (num : Int) := Int.natCast_nonneg _
            have hji : (j : Int) < (m : Int) := by omega
            clear hF hC hTK hNM hop hbh hnu hbe HL
            go_upto_region 16 with (first | (refine wpList_load_mid rfl 58 (.tmp 48) rfl g (j * 7) rfl [Value.int .i64 (op : Int), Value.string NM, Value.int .i64 (F : Int), Value.int .i64 (C : Int), Value.int .i64 (TK : Int), Value.int .u64 (num : Int), Value.int .i64 (bh : Int)] _ hrg Tryd.underlying58 rfl hz58l ?_) | (refine wpList_load_mid rfl 58 (.tmp 48) rfl g (j * 7) rfl [Value.int .i64 (op : Int), Value.string NM, Value.int .i64 (F : Int), Value.int .i64 (C : Int), Value.int .i64 (TK : Int), Value.int .u64 (num : Int), Value.int .i64 (bh : Int)] _ (hrg2 _) Tryd.underlying58 rfl hz58l ?_) | (refine wpList_store_row rfl 58 (.tmp 10) (.tmp 49) rfl wr.heap.size (List.toArray [Value.int .i64 (op : Int), Value.string NM, Value.int .i64 (F : Int), Value.int .i64 (C : Int), Value.int .i64 (TK : Int), Value.int .u64 (num : Int), Value.int .i64 (bh : Int)]) rfl rfl 58 _ (hLA _) hz58 hzz hov1 ?_; rw [World.setRow_alloc_new]))
            have hBV : Below wr.heap.size wr (wr.alloc (.cells (List.toArray [Value.int .i64 (op : Int), Value.string NM, Value.int .i64 (F : Int), Value.int .i64 (C : Int), Value.int .i64 (TK : Int), Value.int .u64 (num : Int), Value.int .i64 (bh : Int)]) 58)) := (Below.refl _ _).alloc (Nat.le_refl _) _
            have O3 : Hid (Blk (wr.alloc (.cells (List.toArray [Value.int .i64 (op : Int), Value.string NM, Value.int .i64 (F : Int), Value.int .i64 (C : Int), Value.int .i64 (TK : Int), Value.int .u64 (num : Int), Value.int .i64 (bh : Int)]) 58)) wr.heap.size 58 [Value.int .i64 (op : Int), Value.string NM, Value.int .i64 (F : Int), Value.int .i64 (C : Int), Value.int .i64 (TK : Int), Value.int .u64 (num : Int), Value.int .i64 (bh : Int)]) := Lib.hid (Blk.new wr 58 [Value.int .i64 (op : Int), Value.string NM, Value.int .i64 (F : Int), Value.int .i64 (C : Int), Value.int .i64 (TK : Int), Value.int .u64 (num : Int), Value.int .i64 (bh : Int)])
            have HO3 := Lib.hid (own_below HO2.out hBV)
            have HG3 := Lib.hid (HG2.out.below hBV HG2.out.lt)
            have HB3 := Lib.hid (HB2.out.trans (hBV.mono HB2.out.size))
            have hgo := HB2.out.size
            clear hBV hLA hz58 hz58l hzz hov1 hrg2 hrg HO2 HG2 HB2 hgl
            generalize hV : wr.alloc (.cells (List.toArray [Value.int .i64 (op : Int), Value.string NM, Value.int .i64 (F : Int), Value.int .i64 (C : Int), Value.int .i64 (TK : Int), Value.int .u64 (num : Int), Value.int .i64 (bh : Int)]) 58) = V at O3 HO3 HG3 HB3 ⊢
            clear hV
            generalize wr.heap.size = go at O3 hgo ⊢
            have oc0 := Blk.cell O3.out 0
            have oc1 := Blk.cell O3.out 1
            have oc2 := Blk.cell O3.out 2
            have oc3 := Blk.cell O3.out 3
            have oc4 := Blk.cell O3.out 4
            have oc5 := Blk.cell O3.out 5
            have oc6 := Blk.cell O3.out 6
            simp only [List.getElem?_cons_zero, List.getElem?_cons_succ] at oc0 oc1 oc2 oc3 oc4 oc5 oc6
            go_wp2_with fail
            refine (leaps_any op F C TK bh num NM V).mono ?_
            rintro e V2 ⟨rfl, hB2⟩
            have O4 := Lib.hid (O3.out.below hB2 O3.out.lt)
            have HO4 := Lib.hid (own_below HO3.out hB2)
            have HG4 := Lib.hid (HG3.out.below hB2 HG3.out.lt)
            have HB4 := Lib.hid (HB3.out.trans (hB2.mono HB3.out.size))
            clear oc0 oc1 oc2 oc3 oc4 oc5 oc6 O3 HO3 HG3 HB3 hB2
            have oc5 := Blk.cell O4.out 5
            simp only [List.getElem?_cons_zero, List.getElem?_cons_succ] at oc5
            obtain ⟨lp, hlp⟩ : ∃ x, leapB op = x := ⟨_, rfl⟩
            rw [hlp] at hlost ⊢
            clear hlp
            cases lp with
            | false =>
              rw [Bool.false_and] at hlost
              go_wp2
              go_roundw
              case rel => exact ⟨j + 1, by go_num, by omega, Lib.hid (hLs _ hlost rfl), HO4, HG4, HB4⟩
              case measure => simp [intOf]; omega
            | true =>
              rw [Bool.true_and] at hlost
              by_cases hnn : (k : Int) ≤ (num : Int)
              · rw [decide_eq_true hnn, Bool.true_or] at hlost
                have e := hany hlost
                go_wp2
                go_ret2
                rw [e]
                exact ⟨_, rfl, World.ownsRow_nil _ _ _ _, HB4.out⟩
              · rw [decide_eq_false hnn, Bool.false_or] at hlost
                have hnk : num < k := by omega
                have hc := HG4.out.cell num
                rw [begs_get k num bs hnk] at hc
                obtain ⟨ct, hct⟩ : ∃ x, bs.contains num = x := ⟨_, rfl⟩
                rw [hct] at hlost hc
                clear hct
                cases ct with
                | false =>
                  have e := hany hlost
                  go_wp2
                  go_ret2
                  rw [e]
                  exact ⟨_, rfl, World.ownsRow_nil _ _ _ _, HB4.out⟩
                | true =>
                  go_wp2
                  go_roundw
                  case rel => exact ⟨j + 1, by go_num, by omega, Lib.hid (hLs _ hlost rfl), HO4, HG4, HB4⟩
                  case measure => simp [intOf]; omega
          · obtain rfl : j = m := by omega
            have hA : bs.any (lost p bs) = false := by
              rw [List.any_eq_false]
              intro b hb
              obtain ⟨i, hi, rfl⟩ := List.mem_iff_getElem.1 hb
              have := HL.out i (by rw [← HME.out]; exact hi)
              simpa [List.getD, hi] using this
            have e : ordsW p (0, bs) = (0, bs) := by unfold ordsW; simp [hA]
            go_wp2
            go_ret2
            rw [e]
            exact ⟨_, rfl, by rw [HME.out]; exact HO2.out, HB2.out⟩

/-- Check: what is wrong, if anything. -/
theorem check_any (A : Option Addr) (n c : Nat) (p : List Int) (w : World) (HP : Hid (Pg w A n c p)) (HT : Hid (KTab w)) :
    Calls Tryd.prog 18 #[.slice A n c] w fun e w' => e = .returned (.int .i64 (ordsV p).1) ∧ Below w.heap.size w w' := by
  go_enter Tryd.func18, Tryd.ntmps18
  go_wp2_with fail
  refine (ordersOf_any A n c p w HP HT).mono ?_
  rintro e w1 ⟨v, rfl, _, hB⟩
  have HB := Lib.hid hB
  clear hB
  go_wp2
  go_ret
  exact ⟨rfl, HB.out⟩
end Go.Proofs.YtkilajobnlagbaaDoor
