/-
  Steps of regions that draw their order: a call, what is made (by the run's equation), an append onto an empty row; of any program.
-/
import Derived.Test.YtnnimjaigciedaaStep4
import Derived.Deep.DeepCutAuto
import Derived.WideShapes
namespace Go.Proofs.Ytnnimjaigciedaa
open Go.RowKit
set_option linter.unusedVariables false

section
variable {P : Program} {ops : Array Oper} {o : Oper} {a : Act} {w : World} {K : Act → World → Prop} {Q : Exit → Act → World → Prop} {E : Prop}
/-- A step whose run is known. -/
theorem step_val (hw : Region.wanted o (yielded ops a.tmps) = true) (v : Value) (W : World) (hr : (execOp a.eval o).run P w = .ok (.value v) W) (h : K (a.put o.dst v) W) :
    if Region.wanted o (yielded ops a.tmps) = true then Oper.wp P o a w K Q else E := by
  rw [if_pos hw]
  unfold Oper.wp
  rw [hr]
  exact h

theorem step_lay (hw : Region.wanted o (yielded ops a.tmps) = true) (t len : Nat) (parts : Array (Nat × Operand)) (ho : o.op = .buildSlice t len parts)
    (vals : Array (Nat × Value)) (hv : (parts.map fun (i, x) => (i, a.eval x)) = vals) (v : Value) (W : World) (hb : (Instr.buildSlice t len vals).run P w = .ok v W) (h : K (a.put o.dst v) W) :
    if Region.wanted o (yielded ops a.tmps) = true then Oper.wp P o a w K Q else E :=
  step_val hw v W (by unfold execOp; simp only [ho, hv, Sem.run_bind, hb, Result.andThen_ok, Sem.run_pure]) h

theorem step_make (hw : Region.wanted o (yielded ops a.tmps) = true) (t : TypeId) (x y : Operand) (ho : o.op = .makeSlice t x y) (v : Value) (W : World)
    (hb : (Instr.makeSlice t (a.eval x) (a.eval y)).run P w = .ok v W) (h : K (a.put o.dst v) W) :
    if Region.wanted o (yielded ops a.tmps) = true then Oper.wp P o a w K Q else E :=
  step_val hw v W (by unfold execOp; simp only [ho, Sem.run_bind, hb, Result.andThen_ok, Sem.run_pure]) h

theorem step_box (hw : Region.wanted o (yielded ops a.tmps) = true) (t : TypeId) (x : Operand) (ho : o.op = .box t x) (v : Value) (W : World)
    (hb : (Instr.box t (a.eval x)).run P w = .ok v W) (h : K (a.put o.dst v) W) :
    if Region.wanted o (yielded ops a.tmps) = true then Oper.wp P o a w K Q else E :=
  step_val hw v W (by unfold execOp; simp only [ho, Sem.run_bind, hb, Result.andThen_ok, Sem.run_pure]) h

theorem step_append (hw : Region.wanted o (yielded ops a.tmps) = true) (s x : Operand) (t t2 : TypeId) (ho : o.op = .call { callee := .builtin .append, args := #[s, x], argTypes := #[t, t2] }) (v : Value) (W : World)
    (hb : ∀ ty, (Builtin.append_ #[t, t2] ty #[a.eval s, a.eval x]).run P w = .ok v W) (h : K (a.put o.dst v) W) :
    if Region.wanted o (yielded ops a.tmps) = true then Oper.wp P o a w K Q else E := by
  have hb := hb o.type
  refine step_val hw v W ?_ h
  unfold execOp
  simp only [ho, resolve, invoke, builtin, Sem.run_bind, Sem.run_pure, Result.andThen_ok, List.map_toArray, List.map_cons, List.map_nil, hb]
end

section
variable {P : Program} {w : World}
/-- A slice that is appended to an empty row: the new one leads to all of its cells, in that row or in a new one; nothing else has turned. -/
theorem append_empty (t e : TypeId) (i : TypeInfo) (z : Value) (size bytes : Nat) (ht : P.underlying t = some (.slice e)) (hi : P.info? e = some i) (hz : i.zero = some z)
    (hsize : i.size = size) (hby : i.bytes = bytes) (hzs : z.cells.size = size) (hsz : 0 < size) (g0 : Nat) (hB : Blk w g0 e [])
    (ad : Option Addr) (m c : Nat) (news : List Value) (hl : news.length = m * size) (hnews : ∀ b, ad = some b → ∀ j u, news[j]? = some u → w.cell? (b.add j) = some u) (hnil : ad = none → m = 0) (h1 : ∀ u ∈ news, u.oneCell' = true)
    (h63 : m ≤ maxLen) (hbytes : m * bytes ≤ 140737488355328) :
    ∃ g cap sp W, (∀ ty, (Builtin.append_ #[t, t] ty #[.slice (some ⟨g0, 0, none⟩) 0 0, .slice ad m c]).run P w = .ok (.slice (some ⟨g, 0, none⟩) m cap) W) ∧ Blk W g e (news ++ sp) ∧ m ≤ cap ∧ cap ≤ maxLen ∧ (g = g0 ∨ g = w.heap.size) ∧ w.grownBy W (some g0) := by
  cases ad with
  | none =>
    obtain rfl := hnil rfl
    have hn : news = [] := List.eq_nil_of_length_eq_zero (by simpa using hl)
    subst hn
    refine ⟨g0, 0, [], w, fun ty => ?_, by simpa using hB, Nat.le_refl _, by unfold maxLen; omega, .inl rfl, World.grownBy.refl w _⟩
    simp [Builtin.append_, run_underlying ht, sizeOf, typeInfo, hi, Builtin.lenOf, Builtin.firstCells, loadCells, loadCellsFrom, storeCells]
  | some b =>
    have hown : w.ownsRow 0 e size (.slice (some ⟨g0, 0, none⟩) 0 0) 0 [] := ⟨by simp, .inr ⟨g0, 0, #[], rfl, Nat.zero_le _, hB, Nat.le_refl _, by unfold maxLen; omega, by simp, by simp⟩⟩
    obtain ⟨v, W, hr, ho, hg, hnl, hat⟩ := run_append_own_at (P := P) w 0 t 0 e i z size bytes ht hi hz hsize hby hzs hsz _ 0 [] hown b m c news hl (hnews b rfl) h1 (by omega) (by rw [Nat.zero_add]; exact hbytes) (Nat.zero_le _)
    rw [Nat.zero_add, List.nil_append] at ho
    rcases ho.2 with ⟨rfl, _⟩ | ⟨g, cap, cur, rfl, _, hgb, hnc, hcm, hcs, htk⟩
    · exact absurd (hnl.1 rfl).1 (by intro h; injection h with h; cases h)
    · refine ⟨g, cap, cur.toList.drop (m * size), W, fun ty => hr, ?_, hnc, hcm, ?_, hg⟩
      · unfold Blk
        rw [← htk, List.take_append_drop]
        exact hgb
      · rcases hat with h | h
        · left
          simpa [Value.ownBlock] using h
        · right
          simpa [Value.ownBlock] using h

/-- A whole row that is copied over another one of its length. -/
theorem run_copy_all (t t2 ty e : TypeId) (i : TypeInfo) (ht : P.underlying t = some (.slice e)) (hi : P.info? e = some i) (g n cd c2 : Nat) (cur : List Value) (hg : Blk w g e cur)
    (ad : Addr) (news : List Value) (hl : news.length = n * i.size) (hlc : cur.length = news.length) (hnews : ∀ j u, news[j]? = some u → w.cell? (ad.add j) = some u) (h1 : ∀ u ∈ news, u.oneCell' = true) :
    (Builtin.copy_ #[t, t2] ty #[.slice (some ⟨g, 0, none⟩) n cd, .slice (some ad) n c2]).run P w = .ok (goInt n) (w.setRow g news.toArray) := by
  have hf := run_firstCells_some (P := P) w i.size n ad n c2 news hl hnews
  have hst := run_storeCells_at P g 0 e news 0 cur.toArray w hg (by simp [hlc]) h1
  have hd : List.drop (0 + 0 + news.length) cur = [] := List.drop_eq_nil_of_le (by omega)
  have ha : (⟨g, 0, none⟩ : Addr).add 0 = ⟨g, 0, none⟩ := by simp [Addr.add]
  rw [hd] at hst
  simp only [Nat.add_zero, List.take_zero, List.nil_append, List.append_nil] at hst
  simp [Builtin.copy_, run_underlying ht, Builtin.lenOf, sizeOf, typeInfo, hi, hf, hst]
end

section
variable {P : Program} {ops : Array Oper} {o : Oper} {a : Act} {w : World} {K : Act → World → Prop} {Q : Exit → Act → World → Prop} {E : Prop}
theorem step_copy (hw : Region.wanted o (yielded ops a.tmps) = true) (d s : Operand) (t t2 : TypeId) (ho : o.op = .call { callee := .builtin .copy, args := #[d, s], argTypes := #[t, t2] }) (v : Value) (W : World)
    (hb : ∀ ty, (Builtin.copy_ #[t, t2] ty #[a.eval d, a.eval s]).run P w = .ok v W) (h : K (a.put o.dst v) W) :
    if Region.wanted o (yielded ops a.tmps) = true then Oper.wp P o a w K Q else E := by
  have hb := hb o.type
  refine step_val hw v W ?_ h
  simp [execOp, ho, resolve, invoke, builtin, hb, Result.andThen]
theorem wpList_copy_run_ {rest : List Oper} (hgd : o.guard = none) (d s : Operand) (t t2 : TypeId) (ho : o.op = .call { callee := .builtin .copy, args := #[d, s], argTypes := #[t, t2] }) (v : Value) (W : World)
    (hb : ∀ ty, (Builtin.copy_ #[t, t2] ty #[a.eval d, a.eval s]).run P w = .ok v W) (h : wpList P ops Q rest (a.put o.dst v) W) : wpList P ops Q (o :: rest) a w := by
  refine wpList_plain hgd fun K hK => ?_
  have hrun := hb o.type
  unfold Oper.wp
  simp [execOp, ho, resolve, invoke, builtin, hrun, Result.andThen]
  exact hK _ _ h
end

section
variable {P : Program} {ops : Array Oper} {o : Oper} {a : Act} {w : World} {K : Act → World → Prop} {Q : Exit → Act → World → Prop} {E : Prop}
/-- An append onto a row of the call's own. -/
theorem step_own (hw : Region.wanted o (yielded ops a.tmps) = true) (s x : Operand) (t : TypeId) (ho : o.op = .call { callee := .builtin .append, args := #[s, x], argTypes := #[t, t] })
    (base : Nat) (e : TypeId) (i : TypeInfo) (z : Value) (size bytes : Nat) (ht : P.underlying t = some (.slice e)) (hi : P.info? e = some i) (hz : i.zero = some z)
    (hsize : i.size = size) (hby : i.bytes = bytes) (hzs : z.cells.size = size) (hsz : 0 < size)
    (v : Value) (n : Nat) (xs : List Value) (hs : a.eval s = v) (hown : w.ownsRow base e size v n xs)
    (ad : Addr) (m c : Nat) (news : List Value) (hx : a.eval x = .slice (some ad) m c) (hl : news.length = m * size) (hnews : ∀ j u, news[j]? = some u → w.cell? (ad.add j) = some u) (h1 : ∀ u ∈ news, u.oneCell' = true)
    (h63 : n + m ≤ maxLen) (hbytes : (n + m) * bytes ≤ 140737488355328) (hbase : base ≤ w.heap.size)
    (h : ∀ v' Y, Y.ownsRow base e size v' (n + m) (xs ++ news) → w.grownBy Y v.ownBlock → (v'.ownBlock = v.ownBlock ∨ v'.ownBlock = some w.heap.size) → (v' = .slice none 0 0 ↔ v = .slice none 0 0 ∧ m = 0) → K (a.put o.dst v') Y) :
    if Region.wanted o (yielded ops a.tmps) = true then Oper.wp P o a w K Q else E := by
  obtain ⟨v', Y, hr, h2, h3, h4, h5⟩ := run_append_own_at (P := P) w base t 0 e i z size bytes ht hi hz hsize hby hzs hsz v n xs hown ad m c news hl hnews h1 h63 hbytes hbase
  exact step_append hw s x t t ho v' Y (fun ty => by rw [hs, hx]; exact hr) (h v' Y h2 h3 h5 h4)
end
theorem below_own {B base n size : Nat} {e : TypeId} {a w w' : World} {v : Value} {xs : List Value} (h : Below B a w) (hg : w.grownBy w' v.ownBlock) (hown : w.ownsRow base e size v n xs) (hB : B ≤ base) (hs : B ≤ w.heap.size) : Below B a w' :=
  h.grown hg hs (fun k hk => Nat.le_trans hB (hown.lt k hk).1)
/-- A slice of one element, laid: its cells. -/
theorem news_of {w : World} {g : Nat} {t : TypeId} {cs : List Value} (h : Blk w g t cs) : ∀ j u, cs[j]? = some u → w.cell? ((⟨g, 0, none⟩ : Addr).add j) = some u := fun j u hu => by
  rw [Go.WideShapes.add_plain, Nat.zero_add, h.cell]; exact hu
end Go.Proofs.Ytnnimjaigciedaa
