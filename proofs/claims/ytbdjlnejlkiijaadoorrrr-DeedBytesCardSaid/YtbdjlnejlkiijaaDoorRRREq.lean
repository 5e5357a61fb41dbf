/-
  Rows of bytes compared (arrays), and a nil log: small facts for the statements.
-/
import Derived.Test.YtbdjlnejlkiijaaDoorRRRAwake
import Derived.ChangeKeysEq
import Derived.Laws.StructEq
namespace Go.Proofs.YtbdjlnejlkiijaaDoorRRR
open Go.RowKit
set_option linter.unusedVariables false

theorem part_byte (l : List Nat) (i : Nat) (hi : i < l.length) (w : World) : (Go.part 5 (w8 l).toArray (i * 1)).run Tryd.prog w = .ok (.int .u8 ((l.getD i 0 : Nat) : Int)) w := by
  have h := w8_get l i hi
  simp [Go.part, isAgg, run_underlying Tryd.underlying5, h]

theorem eq_items (a b : List Nat) (n : Nat) (ha : a.length = n) (hb : b.length = n) (d : Nat) (w : World) : ∀ (k : Nat) (is : List Nat), is = (List.range n).drop (n - k) → k ≤ n →
    (Op.eqItems (d + 1) 5 1 (w8 a).toArray (w8 b).toArray is).run Tryd.prog w = .ok (decide (a.drop (n - k) = b.drop (n - k))) w
  | 0, is, he, _ => by
    subst he
    rw [List.drop_eq_nil_of_le (by simp), List.drop_eq_nil_of_le (by omega), List.drop_eq_nil_of_le (by omega)]
    simp [Op.eqItems]
  | k + 1, is, he, hk => by
    have e1 : n - k = n - (k + 1) + 1 := by omega
    have e2 : (List.range n).drop (n - (k + 1)) = (n - (k + 1)) :: (List.range n).drop (n - k) := by
      rw [List.drop_eq_getElem_cons (by simp; omega), ← e1]
      simp
    have ih := eq_items a b n ha hb d w k _ rfl (by omega)
    subst he
    rw [e2]
    have ga := part_byte a (n - (k + 1)) (by omega) w
    have gb := part_byte b (n - (k + 1)) (by omega) w
    have hi := run_equalIn_int (P := Tryd.prog) w d 5 .u8 .u8 ((a.getD (n - (k + 1)) 0 : Nat) : Int) ((b.getD (n - (k + 1)) 0 : Nat) : Int) Tryd.underlying5
    simp only [Op.eqItems, Sem.run_bind, ga, gb, hi, Result.andThen_ok]
    rw [List.drop_eq_getElem_cons (by omega : n - (k + 1) < a.length), List.drop_eq_getElem_cons (by omega : n - (k + 1) < b.length), ← e1]
    have xa : a.getD (n - (k + 1)) 0 = a[n - (k + 1)]'(by omega) := by simp [List.getD, show n - (k + 1) < a.length by omega]
    have xb : b.getD (n - (k + 1)) 0 = b[n - (k + 1)]'(by omega) := by simp [List.getD, show n - (k + 1) < b.length by omega]
    rw [xa, xb]
    by_cases hx : a[n - (k + 1)]'(by omega) = b[n - (k + 1)]'(by omega)
    · rw [hx]
      simp [ih]
    · have hx2 : ¬ ((a[n - (k + 1)]'(by omega) : Nat) : Int) = ((b[n - (k + 1)]'(by omega) : Nat) : Int) := by omega
      simp [hx, hx2]

theorem equal_row {t n : Nat} (ht : Tryd.prog.underlying t = some (.array n 5)) (a b : List Nat) (ha : a.length = n) (hb : b.length = n) (w : World) : (Op.equalIn 10000 t (.agg (w8 a).toArray) (.agg (w8 b).toArray)).run Tryd.prog w = .ok (decide (a = b)) w := by
  obtain ⟨i0, hi, hz0, hz1, hz2⟩ := info_parts (show (Tryd.prog.info? 5).map (fun i => (i.zero, i.size, i.bytes)) = some (some (.int .u8 0), 1, 1) by kernel_rfl)
  have h := run_equalIn_array (P := Tryd.prog) w 9999 (w8 a).toArray (w8 b).toArray ht hi
  rw [h, show Tryd.prog.cellsOf 5 = 1 by kernel_rfl]
  have h2 := eq_items a b n ha hb 9998 w n (List.range n) (by simp) (Nat.le_refl _)
  rw [Nat.sub_self, List.drop_zero, List.drop_zero] at h2
  exact h2
theorem eql_row {t n : Nat} (ht : Tryd.prog.underlying t = some (.array n 5)) (a b : List Nat) (ha : a.length = n) (hb : b.length = n) (w : World) : (binOp .eql t (.agg (w8 a).toArray) (.agg (w8 b).toArray)).run Tryd.prog w = .ok (.bool (decide (a = b))) w := by
  rw [run_eql_struct, equal_row ht a b ha hb]
  rfl
theorem neq_row {t n : Nat} (ht : Tryd.prog.underlying t = some (.array n 5)) (a b : List Nat) (ha : a.length = n) (hb : b.length = n) (w : World) : (binOp .neq t (.agg (w8 a).toArray) (.agg (w8 b).toArray)).run Tryd.prog w = .ok (.bool (!decide (a = b))) w := by
  rw [run_neq_struct, equal_row ht a b ha hb]
  rfl

/-- A slice of bytes that the call itself made. -/
def Own (w : World) (base : Nat) (v : Value) (l : List Nat) : Prop := w.ownsRow base 5 1 v l.length (w8 l)
theorem byte_info : (Tryd.prog.info? 5).map (fun i => (i.zero, i.size, i.bytes)) = some (some (.int .u8 0), 1, 1) := by kernel_rfl

theorem Own.src {w : World} {base b : Nat} {v : Value} {l : List Nat} (h : Own w base v l) (hb : v.ownBlock ≠ some b) (hl : ∀ x ∈ l, x < 256) : ∃ A c, v = .slice A l.length c ∧ c ≤ 9223372036854775807 ∧ Src w b A c l := by
  rcases h.2 with ⟨rfl, h0⟩ | ⟨g, c, cur, rfl, hg1, hg, hn, hc, _⟩
  · have : l = [] := List.eq_nil_of_length_eq_zero h0
    subst this
    exact ⟨none, 0, rfl, by omega, by simp, .inl rfl, by simp⟩
  · refine ⟨_, c, rfl, by unfold maxLen at hc; exact hc, hn, .inr ⟨g, 0, rfl, ?_, ?_, fun i hi => ?_⟩, hl⟩
    · rcases Nat.lt_or_ge g w.heap.size with h2 | h2
      · exact h2
      · rw [Array.getElem?_eq_none h2] at hg; cases hg
    · rintro rfl
      exact hb rfl
    · rw [Nat.zero_add, World.ownsRow.cellAt h i (by omega), w8_get l i hi]

theorem run_append_of_nil {P : Program} (w : World) (base : Nat) (t ty e : TypeId) (i : TypeInfo) (size : Nat) (ht : P.underlying t = some (.slice e)) (hi : P.info? e = some i)
    (v : Value) (n : Nat) (xs : List Value) (hown : w.ownsRow base e size v n xs) (c : Nat) : (Builtin.append_ #[t, t] ty #[v, .slice none 0 c]).run P w = .ok v w := by
  rcases hown.2 with ⟨rfl, rfl⟩ | ⟨g, cap, cur, rfl, _, _, hnc, _⟩
  · simp [Builtin.append_, run_underlying ht, sizeOf, typeInfo, hi, Builtin.lenOf, Builtin.firstCells]
  · simp [Builtin.append_, run_underlying ht, sizeOf, typeInfo, hi, Builtin.lenOf, Builtin.firstCells, hnc, storeCells]

set_option maxRecDepth 100000 in
theorem run_app (w : World) (base b : Nat) (ty : TypeId) (v : Value) (xs l : List Nat) (hO : Own w base v xs) (A : Option Addr) (c : Nat) (hS : Src w b A c l)
    (hb : xs.length + l.length ≤ 140737488355328) (hbase : base ≤ w.heap.size) :
    ∃ v' w', (Builtin.append_ #[35, 35] ty #[v, .slice A l.length c]).run Tryd.prog w = .ok v' w' ∧ Own w' base v' (xs ++ l) ∧ w.grownBy w' v.ownBlock ∧ (v'.ownBlock = v.ownBlock ∨ v'.ownBlock = some w.heap.size) := by
  obtain ⟨i0, hi, hz0, hz1, hz2⟩ := info_parts byte_info
  have e2 : w8 (xs ++ l) = w8 xs ++ w8 l := by simp [w8]
  cases A with
  | none =>
    have hl0 : l = [] := by
      rcases hS.at_ with h | ⟨b, off, h, _⟩
      · exact h
      · cases h
    subst hl0
    refine ⟨_, w, run_append_of_nil (P := Tryd.prog) w base 35 ty 5 i0 1 Tryd.underlying35 hi v _ _ hO c, by simpa using hO, World.grownBy.refl w _, .inl rfl⟩
  | some ad =>
    have hcells : ∀ j u, (w8 l)[j]? = some u → w.cell? (ad.add j) = some u := by
      intro j u hu
      rcases hS.at_ with rfl | ⟨b, off, h, _, _, hcell⟩
      · simp [w8] at hu
      · injection h with h
        subst h
        have hj : j < l.length := by
          have := (List.getElem?_eq_some_iff.1 hu).1
          simpa [w8] using this
        rw [Addr.add_mid, hcell j hj, ← hu, w8_get l j hj]
    obtain ⟨v', w', hr, h2, h3, _, h5⟩ := run_append_own_at (P := Tryd.prog) w base 35 ty 5 i0 (.int .u8 0) 1 1 Tryd.underlying35 hi hz0 hz1 hz2 rfl (by omega) v xs.length (w8 xs) hO ad l.length c (w8 l) (by simp [w8]) hcells
      (w8_one l) (by unfold maxLen; omega) (by omega) hbase
    refine ⟨v', w', hr, ?_, h3, h5⟩
    unfold Own
    rw [List.length_append, e2]
    exact h2

theorem wpList_app {w : World} {ops : Array Oper} {rest : List Oper} {o : Oper} {a : Act} {Q : Exit → Act → World → Prop} (hgd : o.guard = none) (s x : Operand)
    (ho : o.op = .call { callee := .builtin .append, args := #[s, x], argTypes := #[35, 35] })
    (base b : Nat) (v : Value) (xs l : List Nat) (hs : a.eval s = v) (hO : Own w base v xs) (A : Option Addr) (n c : Nat) (hx : a.eval x = .slice A n c) (hn : n = l.length) (hS : Src w b A c l) (hb : xs.length + l.length ≤ 140737488355328) (hbase : base ≤ w.heap.size)
    (h : ∀ v' w', Hid (Own w' base v' (xs ++ l)) → Hid (w.grownBy w' v.ownBlock) → Hid (v'.ownBlock = v.ownBlock ∨ v'.ownBlock = some w.heap.size) → wpList Tryd.prog ops Q rest (a.put o.dst v') w') : wpList Tryd.prog ops Q (o :: rest) a w := by
  subst hn
  refine wpList_plain hgd fun K hK => ?_
  obtain ⟨v', w', hr, h2, h3, h4⟩ := run_app w base b o.type v xs l hO A c hS hb hbase
  unfold Oper.wp execOp
  simp only [ho, resolve, invoke, builtin, Sem.run_bind, Sem.run_pure, Result.andThen_ok, List.map_toArray, List.map_cons, List.map_nil, hs, hx, hr]
  exact hK _ _ (h v' w' (Lib.hid h2) (Lib.hid h3) (Lib.hid h4))

theorem Own.nil (w : World) (base : Nat) : Own w base (.slice none 0 0) [] := World.ownsRow_nil w base 5 1
theorem Own.below {w w' : World} {base : Nat} {v : Value} {l : List Nat} (h : Own w base v l) (hB : Below w.heap.size w w') : Own w' base v l := by
  refine ⟨h.1, ?_⟩
  rcases h.2 with h1 | ⟨g, cap, cur, hv, hb, hg, rest⟩
  · exact .inl h1
  · have hlt : g < w.heap.size := by
      rcases Nat.lt_or_ge g w.heap.size with h2 | h2
      · exact h2
      · rw [Array.getElem?_eq_none h2] at hg; cases hg
    exact .inr ⟨g, cap, cur, hv, hb, (hB.block g hlt).trans hg, rest⟩
theorem Own.grown {w w' : World} {base b : Nat} {v : Value} {l : List Nat} (h : Own w base v l) (hg : w.grownBy w' (some b)) (hb : v.ownBlock ≠ some b) : Own w' base v l := by
  refine World.ownsRow.kept h hg ?_
  rcases hv : v.ownBlock with _ | g
  · exact .inl rfl
  · exact .inr fun he => hb (by rw [hv]; exact he)
theorem Own.base_ {w : World} {base g : Nat} {v : Value} {l : List Nat} (h : Own w base v l) (hv : v.ownBlock = some g) : base ≤ g ∧ g < w.heap.size := World.ownsRow.lt h g hv

end Go.Proofs.YtbdjlnejlkiijaaDoorRRR
