/-
  What the walk of MillLogs wants: rows of keys and of texts.
-/
import Derived.Test.YtcpjfdaacnkcnaaDoorLogSt
import Derived.Test.YtcpjfdaacnkcnaaDoorArgD
import Derived.Deep.MidRow
import Derived.Deep.WholeRow
import Derived.Deep.Cut
import Derived.Deep.CutRange
import Derived.Laws.Cover3
namespace Go.Proofs.YtcpjfdaacnkcnaaDoor
open Go.RowKit
set_option linter.unusedVariables false

def kcells (Ks : List (List Nat)) : List Value := Ks.flatMap w8
def tcells (Xs : List (List Nat)) : List Value := Xs.map fun x => .string (txt (ints x))
theorem info24s : (Tryd.prog.info? 24).map (·.size) = some 32 := by kernel_rfl
theorem info52s : (Tryd.prog.info? 52).map (·.size) = some 4 := by kernel_rfl
theorem z24 (w : World) : (w8 (List.replicate 32 0)).toArray.size = 32 := by simp [w8]

section
variable {P : Program} {ops : Array Oper} {o : Oper} {a : Act} {w : World} {K : Act → World → Prop} {Q : Exit → Act → World → Prop} {E : Prop}
theorem step_call_ (hw : Region.wanted o (yielded ops a.tmps) = true) (f : FuncId) (args : Array Operand) (tys : Array TypeId)
    (ho : o.op = .call { callee := .value (.func f), args := args, argTypes := tys }) (vs : Array Value) (hv : args.map a.eval = vs) {R : Ending → World → Prop} (hf : (callFunc f vs).run P w = .ok (.enter f vs) w) (hc : Calls P f vs w R)
    (hR : ∀ e w', R e w' → ∃ v, e = .returned v ∧ K (a.put o.dst v) w') :
    if Region.wanted o (yielded ops a.tmps) = true then Oper.wp P o a w K Q else E := by
  rw [if_pos hw]
  have e : (execOp a.eval o).run P w = .ok (.enter f vs) w := by
    unfold execOp
    simp only [ho]
    go_simp
    first | done | (rw [hv]; exact hf)
  unfold Oper.wp
  rw [e, Oper.upon_enter]
  refine hc.mono ?_
  intro e w' hr
  obtain ⟨v, rfl, hv⟩ := hR e w' hr
  exact hv
theorem step_val (hw : Region.wanted o (yielded ops a.tmps) = true) (v : Value) (W : World) (hr : (execOp a.eval o).run P w = .ok (.value v) W) (h : K (a.put o.dst v) W) :
    if Region.wanted o (yielded ops a.tmps) = true then Oper.wp P o a w K Q else E := by
  rw [if_pos hw]
  unfold Oper.wp
  rw [hr]
  exact h
theorem step_lay (hw : Region.wanted o (yielded ops a.tmps) = true) (t len : Nat) (parts : Array (Nat × Operand)) (ho : o.op = .buildSlice t len parts)
    (vals : Array (Nat × Value)) (hv : (parts.map fun (i, x) => (i, a.eval x)) = vals) (v : Value) (W : World) (hb : (Instr.buildSlice t len vals).run P w = .ok v W) (h : K (a.put o.dst v) W) :
    if Region.wanted o (yielded ops a.tmps) = true then Oper.wp P o a w K Q else E :=
  step_val hw v W (by unfold execOp; simp only [ho, hv, Sem.run_bind, hb, Result.andThen_ok, Sem.run_pure]) h
theorem step_append (hw : Region.wanted o (yielded ops a.tmps) = true) (s x : Operand) (t t2 : TypeId) (ho : o.op = .call { callee := .builtin .append, args := #[s, x], argTypes := #[t, t2] }) (v : Value) (W : World)
    (hb : ∀ ty, (Builtin.append_ #[t, t2] ty #[a.eval s, a.eval x]).run P w = .ok v W) (h : K (a.put o.dst v) W) :
    if Region.wanted o (yielded ops a.tmps) = true then Oper.wp P o a w K Q else E := by
  have hb := hb o.type
  refine step_val hw v W ?_ h
  unfold execOp
  simp only [ho, resolve, invoke, builtin, Sem.run_bind, Sem.run_pure, Result.andThen_ok, List.map_toArray, List.map_cons, List.map_nil, hb]
end

section
variable {w w' : World} {B : Nat}
theorem row_other {e e2 s s2 n n2 : Nat} {v v2 : Value} {xs xs2 : List Value} (h2 : w.ownsRow B e2 s2 v2 n2 xs2) (h : w.ownsRow B e s v n xs) (hne : e2 ≠ e) (hG : w.grownBy w' v.ownBlock) : w'.ownsRow B e2 s2 v2 n2 xs2 := by
  refine ⟨h2.1, ?_⟩
  rcases h2.2 with q | ⟨g2, c2, cur2, hv2, hb2, hg2, rest2⟩
  · exact .inl q
  · refine .inr ⟨g2, c2, cur2, hv2, hb2, (hG.block g2 (Array.getElem?_eq_some_iff.1 hg2).1 ?_).trans hg2, rest2⟩
    intro e1
    rcases h.2 with ⟨hv, _⟩ | ⟨g, c, cur, hv, _, hg, _⟩
    · rw [hv] at e1; cases e1
    · rw [hv] at e1
      have : g2 = g := by simpa [Value.ownBlock] using e1
      subst this
      rw [hg2] at hg
      injection hg with hg
      injection hg with _ hg
      exact hne hg
theorem blk_other {e s n t g : Nat} {v : Value} {xs cs : List Value} (hB : Blk w g t cs) (h : w.ownsRow B e s v n xs) (hne : t ≠ e) (hG : w.grownBy w' v.ownBlock) : Blk w' g t cs := by
  refine hB.grown hG ?_
  intro e1
  rcases h.2 with ⟨hv, _⟩ | ⟨g2, c, cur, hv, _, hg, _⟩
  · rw [hv] at e1; cases e1
  · rw [hv] at e1
    have : g = g2 := by simpa [Value.ownBlock] using e1
    subst this
    unfold Blk at hB
    rw [hB] at hg
    injection hg with hg
    injection hg with _ hg
    exact hne hg
theorem LogSt.other {e s n g : Nat} {b : Option Nat} {met : Bool} {Ks Xs : List (List Nat)} {v : Value} {xs : List Value} (hL : LogSt w B g b met Ks Xs) (h : w.ownsRow B e s v n xs) (h1 : 49 ≠ e) (h2 : 5 ≠ e) (hG : w.grownBy w' v.ownBlock) : LogSt w' B g b met Ks Xs := by
  refine ⟨blk_other hL.blk h h1 hG, hL.low, hL.len, hL.keys, hL.once, hL.small, hL.none_, fun i hi => ?_⟩
  obtain ⟨q1, V, q2, q3, q4⟩ := hL.some_ i hi
  refine ⟨q1, V, q2, q3.far hG ?_, fun j hj => row_other (q4 j hj) h h2 hG⟩
  intro e1
  rcases h.2 with ⟨hv, _⟩ | ⟨g2, c, cur, hv, _, hg, _⟩
  · rw [hv] at e1; cases e1
  · rw [hv] at e1
    have : i = g2 := by simpa [Value.ownBlock] using e1
    subst this
    exact map_block q3 hg
theorem below_own {a : World} {e s n : Nat} {v : Value} {xs : List Value} (hb : B ≤ w.heap.size) (hA : Below B a w) (h : w.ownsRow B e s v n xs) (hG : w.grownBy w' v.ownBlock) : Below B a w' :=
  hA.grown hG hb (fun j hj => (World.ownsRow.lt h j hj).1)
end
theorem info52f : (Tryd.prog.info? 52).map (fun i => (i.zero, i.size, i.bytes)) = some (some (.agg #[.int .u8 0, .int .u8 0, .int .u8 0, .int .u8 0]), 4, 4) := by kernel_rfl
theorem info9f : (Tryd.prog.info? 9).map (fun i => (i.zero, i.size, i.bytes)) = some (some (.string ⟨#[]⟩), 1, 16) := by kernel_rfl
theorem lay50 (K : List Nat) (h : K.length = 4) (w : World) : (Instr.buildSlice 50 1 #[(0, .agg (w8 K).toArray)]).run Tryd.prog w = .ok (.slice (some ⟨w.heap.size, 0, none⟩) 1 1) (w.alloc (.cells (w8 K).toArray 52)) := by
  obtain ⟨a, b, c, d, rfl⟩ : ∃ a b c d, K = [a, b, c, d] := by
    match K, h with
    | [a, b, c, d], _ => exact ⟨a, b, c, d, rfl⟩
  show (Instr.buildSlice 50 1 #[(0, .agg #[.int .u8 (a : Int), .int .u8 (b : Int), .int .u8 (c : Int), .int .u8 (d : Int)])]).run Tryd.prog w = .ok (.slice (some ⟨w.heap.size, 0, none⟩) 1 1) (w.alloc (.cells #[.int .u8 (a : Int), .int .u8 (b : Int), .int .u8 (c : Int), .int .u8 (d : Int)] 52))
  kernel_rfl
theorem lay51 (t : ByteArray) (w : World) : (Instr.buildSlice 51 1 #[(0, .string t)]).run Tryd.prog w = .ok (.slice (some ⟨w.heap.size, 0, none⟩) 1 1) (w.alloc (.cells #[.string t] 9)) := by kernel_rfl
theorem app_keys {w : World} {B n gl : Nat} {v : Value} {Ks : List (List Nat)} {K : List Nat} (h : w.ownsRow B 52 4 v n (kcells Ks)) (hl : Ks.length = n) (hn : n ≤ 60) (hG : Blk w gl 52 (w8 K)) (hK : K.length = 4) (hB : B ≤ w.heap.size) :
    ∃ v' w', (∀ ty, (Builtin.append_ #[50, 50] ty #[v, .slice (some ⟨gl, 0, none⟩) 1 1]).run Tryd.prog w = .ok v' w') ∧ w'.ownsRow B 52 4 v' (n + 1) (kcells (Ks ++ [K])) ∧ w.grownBy w' v.ownBlock := by
  obtain ⟨i0, hi, hz0, hz1, hz2⟩ := info_parts info52f
  obtain ⟨v', W, hr, h2, h3, _, _⟩ := run_append_own_at (P := Tryd.prog) w B 50 0 52 i0 _ 4 4 (by kernel_rfl) hi hz0 hz1 hz2 rfl (by omega) v n (kcells Ks) h ⟨gl, 0, none⟩ 1 1 (w8 K) (by rw [w8_length, hK]) (fun j u hu => by rw [Go.WideShapes.add_plain, Nat.zero_add, hG.cell]; exact hu) (w8_one K) (by unfold maxLen; omega) (by omega) hB
  exact ⟨v', W, fun ty => hr, by simpa [kcells] using h2, h3⟩
theorem app_last {w : World} {B n gl : Nat} {v : Value} {Xs : List (List Nat)} {p : List Nat} (h : w.ownsRow B 9 1 v n (tcells Xs)) (hn : n ≤ 60) (hG : Blk w gl 9 [.string (txt (ints p))]) (hB : B ≤ w.heap.size) :
    ∃ v' w', (∀ ty, (Builtin.append_ #[51, 51] ty #[v, .slice (some ⟨gl, 0, none⟩) 1 1]).run Tryd.prog w = .ok v' w') ∧ w'.ownsRow B 9 1 v' (n + 1) (tcells (Xs ++ [p])) ∧ w.grownBy w' v.ownBlock := by
  obtain ⟨i0, hi, hz0, hz1, hz2⟩ := info_parts info9f
  obtain ⟨v', W, hr, h2, h3, _, _⟩ := run_append_own_at (P := Tryd.prog) w B 51 0 9 i0 _ 1 16 (by kernel_rfl) hi hz0 hz1 hz2 rfl (by omega) v n (tcells Xs) h ⟨gl, 0, none⟩ 1 1 [.string (txt (ints p))] rfl (fun j u hu => by rw [Go.WideShapes.add_plain, Nat.zero_add, hG.cell]; exact hu) (by intro v hv; simp at hv; subst hv; rfl) (by unfold maxLen; omega) (by omega) hB
  exact ⟨v', W, fun ty => hr, by simpa [tcells] using h2, h3⟩

theorem own_form {w : World} {B e s n : Nat} {v : Value} {xs : List Value} (h : w.ownsRow B e s v n xs) : ∃ A c, v = .slice A n c := by
  rcases h.2 with ⟨rfl, rfl⟩ | ⟨g, c, cur, rfl, _⟩
  · exact ⟨none, 0, rfl⟩
  · exact ⟨_, c, rfl⟩
theorem many_st {w : World} {B g : Nat} {b : Option Nat} {met : Bool} {Ks Xs : List (List Nat)} (h : LogSt w B g b met Ks Xs) (n : Nat) (hn : Ks.length = n) :
    Calls Tryd.prog 23 #[.pointer (some ⟨g, 0, none⟩)] w fun e w' => e = .returned (.int .i64 (n : Int)) ∧ w = w' := by
  cases b with
  | none =>
    obtain ⟨rfl, _⟩ := h.none_ rfl
    obtain rfl : n = 0 := hn.symm
    exact many_none g met w (Lib.hid h.blk)
  | some i =>
    obtain ⟨_, V, hV, hM, _⟩ := h.some_ i rfl
    exact many_any g i met (Ks.zip V) n w (Lib.hid h.blk) (Lib.hid hM) (Lib.hid (by rw [List.length_zip, hV, hn]; simp))

theorem row_below {w w' : World} {B e s n : Nat} {v : Value} {xs : List Value} (h : w.ownsRow B e s v n xs) (hB : Below w.heap.size w w') : w'.ownsRow B e s v n xs := by
  refine ⟨h.1, ?_⟩
  rcases h.2 with q | ⟨g2, c2, cur2, hv2, hb2, hg2, rest2⟩
  · exact .inl q
  · exact .inr ⟨g2, c2, cur2, hv2, hb2, (hB.block g2 (Array.getElem?_eq_some_iff.1 hg2).1).trans hg2, rest2⟩

theorem blk_ne {w : World} {B e s n t g : Nat} {v : Value} {xs cs : List Value} (hB : Blk w g t cs) (h : w.ownsRow B e s v n xs) (hne : t ≠ e) : some g ≠ v.ownBlock := by
  intro e1
  rcases h.2 with ⟨hv, _⟩ | ⟨g2, c, cur, hv, _, hg, _⟩
  · rw [hv] at e1; cases e1
  · rw [hv] at e1
    have : g = g2 := by simpa [Value.ownBlock] using e1
    subst this
    unfold Blk at hB
    rw [hB] at hg
    injection hg with hg
    injection hg with _ hg
    exact hne hg

theorem trow_at {w : World} {B n c : Nat} {A : Option Addr} {Xs : List (List Nat)} (h : w.ownsRow B 9 1 (.slice A n c) n (tcells Xs)) (hl : Xs.length = n) (j : Nat) (hj : j < n) :
    ∃ g, A = some ⟨g, 0, none⟩ ∧ B ≤ g ∧ g < w.heap.size ∧ w.cell? ⟨g, j, none⟩ = some (.string (txt (ints (Xs.getD j [])))) ∧ w.frozen? ⟨g, j, none⟩ = false := by
  rcases h.2 with ⟨_, h0⟩ | ⟨g, c', cur, he, hb, hg, h1, h2, h3, h4⟩
  · omega
  · injection he with e1 e2 e3
    subst e1
    refine ⟨g, rfl, hb, (Array.getElem?_eq_some_iff.1 hg).1, ?_, by simp [World.frozen?, hg]⟩
    rw [cell_of_row w g j cur 9 (0, 0) hg]
    have : (cur.toList.take (n * 1))[j]? = (tcells Xs)[j]? := by rw [h4]
    rw [List.getElem?_take, if_pos (by omega)] at this
    rw [← Array.getElem?_toList, this]
    simp [tcells, List.getD, show j < Xs.length by omega]
theorem trow_set {w : World} {B n c g : Nat} {Xs : List (List Nat)} {p : List Nat} (h : w.ownsRow B 9 1 (.slice (some ⟨g, 0, none⟩) n c) n (tcells Xs)) (j : Nat) (hj : j < n) :
    (w.setCell ⟨g, j, none⟩ (.string (txt (ints p)))).ownsRow B 9 1 (.slice (some ⟨g, 0, none⟩) n c) n (tcells (Xs.set j p)) ∧ w.grownBy (w.setCell ⟨g, j, none⟩ (.string (txt (ints p)))) (some g) := by
  rcases h.2 with ⟨h0, _⟩ | ⟨g2, c', cur, he, hb, hg, h1, h2, h3, h4⟩
  · cases h0
  · injection he with e1 e2 e3
    injection e1 with e1
    injection e1 with e1
    subst e1 e3
    have hB : Blk w g 9 cur.toList := by unfold Blk; simpa using hg
    refine ⟨⟨by have := h.1; simpa [tcells] using this, .inr ⟨g, c, (cur.toList.set j (.string (txt (ints p)))).toArray, rfl, hb, ?_, h1, h2, by simpa using h3, ?_⟩⟩, ?_⟩
    · exact Blk.set_ hB j _
    · rw [List.toList_toArray, List.take_set, h4]
      simp [tcells, List.map_set]
    · exact ⟨rfl, rfl, rfl, by simp [World.setCell], fun i hi hne => Below.heap_setCell w ⟨g, j, none⟩ _ i (by rintro rfl; exact hne rfl)⟩
theorem LogSt.below_ {w w' : World} {B g : Nat} {b : Option Nat} {met : Bool} {Ks Xs : List (List Nat)} (h : LogSt w B g b met Ks Xs) (hB : Below w.heap.size w w') : LogSt w' B g b met Ks Xs := by
  refine ⟨h.blk.below hB h.blk.lt, h.low, h.len, h.keys, h.once, h.small, h.none_, fun i hi => ?_⟩
  obtain ⟨h1, V, h2, h3, h4⟩ := h.some_ i hi
  exact ⟨h1, V, h2, h3.below hB, fun j hj => (Kept.of_below (Nat.le_refl _) hB).row (by decide) (h4 j hj)⟩
theorem w8_take_ (l : List Nat) (n : Nat) : (w8 l).take n = w8 (l.take n) := by simp [w8]
theorem kcells_length (Ks : List (List Nat)) (h : ∀ k ∈ Ks, k.length = 4 ∧ ∀ x ∈ k, x < 256) : (kcells Ks).length = Ks.length * 4 := by
  induction Ks with
  | nil => rfl
  | cons k r ih =>
    have e : kcells (k :: r) = w8 k ++ kcells r := by simp [kcells]
    rw [e, List.length_append, w8_length, (h k (by simp)).1, ih (fun q hq => h q (by simp [hq])), List.length_cons]
    omega
theorem kcells_at (Ks : List (List Nat)) (h : ∀ k ∈ Ks, k.length = 4 ∧ ∀ x ∈ k, x < 256) : ∀ j, j < Ks.length → ∀ (i : Nat) (v : Value), (w8 (Ks.getD j []))[i]? = some v → (kcells Ks)[j * 4 + i]? = some v := by
  induction Ks with
  | nil => intro j hj; simp at hj
  | cons k r ih =>
    intro j hj i v hv
    have e : kcells (k :: r) = w8 k ++ kcells r := by simp [kcells]
    have hk4 : (w8 k).length = 4 := by rw [w8_length]; exact (h k (by simp)).1
    rw [e]
    cases j with
    | zero =>
      have hi : i < (w8 k).length := (List.getElem?_eq_some_iff.1 hv).1
      rw [Nat.zero_mul, Nat.zero_add, List.getElem?_append_left hi]
      exact hv
    | succ j =>
      rw [List.getElem?_append_right (by rw [hk4]; omega), hk4, show (j + 1) * 4 + i - 4 = j * 4 + i by omega]
      exact ih (fun q hq => h q (by simp [hq])) j (by simpa using hj) i v (by simpa using hv)
theorem krow_at {w : World} {B n c : Nat} {A : Option Addr} {Ks : List (List Nat)} (h : w.ownsRow B 52 4 (.slice A n c) n (kcells Ks)) (hl : Ks.length = n) (hk : ∀ k ∈ Ks, k.length = 4 ∧ ∀ x ∈ k, x < 256) (j : Nat) (hj : j < n) :
    ∃ g, A = some ⟨g, 0, none⟩ ∧ B ≤ g ∧ g < w.heap.size ∧ w.rangeAt g (j * 4) (w8 (Ks.getD j [])) := by
  rcases h.2 with ⟨_, h0⟩ | ⟨g, c', cur, he, hb, hg, h1, h2, h3, h4⟩
  · omega
  · injection he with e1 e2 e3
    subst e1
    refine ⟨g, rfl, hb, (Array.getElem?_eq_some_iff.1 hg).1, fun i v hv => ?_⟩
    rw [cell_of_row w g (j * 4 + i) cur 52 (0, 0) hg]
    have hi := kcells_at Ks hk j (by omega) i v hv
    rw [← h4, List.getElem?_take] at hi
    split at hi
    · rw [← Array.getElem?_toList]; exact hi
    · cases hi
theorem Tab.keep_ {w w' : World} (h : Tab w) (hB : Below w.heap.size w w') : Tab w' := fun j v hv => (hB.cell (p := ⟨0, 0 + j, none⟩) h.lt).trans (h j v hv)
theorem all_one_ {l : List Value} (h : ∀ v ∈ l, v.oneCell' = true) : l.toArray.all (·.oneCell') = true := Array.all_eq_true_iff_forall_mem.2 (by simpa using h)
end Go.Proofs.YtcpjfdaacnkcnaaDoor
