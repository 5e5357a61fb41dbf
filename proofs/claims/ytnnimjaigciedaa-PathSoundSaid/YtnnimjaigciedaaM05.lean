/-
  Channels as numbers, rows of them; web's Side and has, the law's Light.
  More steps of regions that draw their order: a load, one spot laid as a slice, an append to a row of one's own, a slice stored in a field.
  A slice stored in a field of a block that is known.
  Steps of regions that draw their order: a call, what is made (by the run's equation), an append onto an empty row; of any program.
-/
import Derived.Test.YtnnimjaigciedaaM04
import Derived.Deep.DeepCutAuto
import Derived.WideShapes
namespace Go.Proofs.Ytnnimjaigciedaa
open Go.RowKit
set_option linter.unusedVariables false

/-- A channel: its ends, what they can send, their fees. -/
structure Ed where
  p : Int
  q : Int
  c : Int
  d : Int
  f : Int
  g : Int
  h : Int
  i : Int
def ed0 : Ed := ⟨0, 0, 0, 0, 0, 0, 0, 0⟩
def ecells (e : Ed) : List Value := [.int .i64 e.p, .int .i64 e.q, .int .u64 e.c, .int .u64 e.d, .int .u64 e.f, .int .u64 e.g, .int .u64 e.h, .int .u64 e.i]
/-- A number of 64 bits. -/
def Word (x : Int) : Prop := 0 ≤ x ∧ x ≤ 18446744073709551615
def EdOk (e : Ed) : Prop := (-9223372036854775808 ≤ e.p ∧ e.p ≤ 9223372036854775807) ∧ (-9223372036854775808 ≤ e.q ∧ e.q ≤ 9223372036854775807) ∧ Word e.c ∧ Word e.d ∧ Word e.f ∧ Word e.g ∧ Word e.h ∧ Word e.i

/-- A slice of channels, read as a list. -/
def EdgeRow (w : World) (a : Option Addr) (l : List Ed) : Prop :=
  l = [] ∨ ∃ b off, a = some ⟨b, off, none⟩ ∧ b < w.heap.size ∧ ∀ i, i < l.length → ∀ j v, (ecells (l.getD i ed0))[j]? = some v → w.cell? ⟨b, off + i * 8 + j, none⟩ = some v

theorem EdgeRow.below {w w' : World} {a : Option Addr} {l : List Ed} (h : EdgeRow w a l) (hB : Below w.heap.size w w') : EdgeRow w' a l := by
  rcases h with h1 | ⟨b, off, h4, h5, h6⟩
  · exact .inl h1
  · exact .inr ⟨b, off, h4, Nat.lt_of_lt_of_le h5 hB.size, fun i hi j v hv => by
      rw [hB.cell (p := ⟨b, off + i * 8 + j, none⟩) h5]
      exact h6 i hi j v hv⟩

/-- Which side a node is at. -/
def sideE (e : Ed) (n : Int) : Int := if e.p = n then 0 else if e.q = n then 1 else -1

set_option maxRecDepth 100000 in
set_option maxHeartbeats 1000000 in
theorem eside_any (e : Ed) (n : Int) (w : World) :
    Calls Try.prog 20 #[.agg (ecells e).toArray, .int .i64 n] w fun r w' => r = .returned (.int .i64 (sideE e n)) ∧ Below w.heap.size w w' := by
  obtain ⟨p, q, c, d, f, g, h, i⟩ := e
  show Calls Try.prog 20 #[.agg #[.int .i64 p, .int .i64 q, .int .u64 c, .int .u64 d, .int .u64 f, .int .u64 g, .int .u64 h, .int .u64 i], .int .i64 n] w _
  have i0 : ∀ w, (Instr.index 48 (.agg #[.int .i64 p, .int .i64 q]) (.int .i64 0)).run Try.prog w = .ok (.int .i64 p) w := fun _ => by kernel_rfl
  have i1 : ∀ w, (Instr.index 48 (.agg #[.int .i64 p, .int .i64 q]) (.int .i64 1)).run Try.prog w = .ok (.int .i64 q) w := fun _ => by kernel_rfl
  by_cases h1 : p = n
  · have HE : Hid (sideE ⟨p, q, c, d, f, g, h, i⟩ n = 0) := Lib.hid (by unfold sideE; rw [if_pos h1])
    have b1 : (p == n) = true := by simpa using h1
    clear h1
    go_enter Try.func20, Try.ntmps20
    go_wp2
    refine wp_loop_rounds 1 ?_
    rw [rounds_succ]
    go_wp2
    go_ret
    exact ⟨by rw [HE.out]; rfl, (Below.refl _ _).alloc (Nat.le_refl _) _⟩
  · have b1 : (p == n) = false := by simpa using h1
    by_cases h2 : q = n
    · have HE : Hid (sideE ⟨p, q, c, d, f, g, h, i⟩ n = 1) := Lib.hid (by unfold sideE; rw [if_neg h1, if_pos h2])
      have b2 : (q == n) = true := by simpa using h2
      clear h1 h2
      go_enter Try.func20, Try.ntmps20
      go_wp2
      refine wp_loop_rounds 2 ?_
      rw [rounds_succ]
      go_wp2
      rw [rounds_succ]
      go_wp2
      go_ret
      exact ⟨by rw [HE.out]; rfl, (Below.refl _ _).alloc (Nat.le_refl _) _⟩
    · have HE : Hid (sideE ⟨p, q, c, d, f, g, h, i⟩ n = -1) := Lib.hid (by unfold sideE; rw [if_neg h1, if_neg h2])
      have b2 : (q == n) = false := by simpa using h2
      clear h1 h2
      go_enter Try.func20, Try.ntmps20
      go_wp2
      refine wp_loop_rounds 3 ?_
      rw [rounds_succ]
      go_wp2
      rw [rounds_succ]
      go_wp2
      rw [rounds_succ]
      go_wp2
      go_ret
      exact ⟨by rw [HE.out]; rfl, (Below.refl _ _).alloc (Nat.le_refl _) _⟩

def hasB (n : Int) (sl : Nat) : Bool := decide (0 ≤ n ∧ n < (sl : Int))
def lightB (sl el : Nat) : Bool := decide (sl ≤ 20 ∧ el ≤ 30)

/-- A web's two slices. -/
def webV (sa : Option Addr) (sl sc : Nat) (ea : Option Addr) (el ec : Nat) : Value := .agg #[.slice sa sl sc, .slice ea el ec]

set_option maxRecDepth 100000 in
set_option maxHeartbeats 1000000 in
theorem has_any (sa : Option Addr) (sl sc : Nat) (ea : Option Addr) (el ec : Nat) (n : Int) (w : World) :
    Calls Try.prog 47 #[.agg #[.slice sa sl sc, .slice ea el ec], .int .i64 n] w fun r w' => r = .returned (.bool (hasB n sl)) ∧ Below w.heap.size w w' := by
  by_cases h1 : 0 ≤ n
  · by_cases h2 : n < (sl : Int)
    · have HE : Hid (hasB n sl = true) := Lib.hid (decide_eq_true (show 0 ≤ n ∧ n < (sl : Int) from ⟨h1, h2⟩))
      have b2 : decide (n < (sl : Int)) = true := decide_eq_true h2
      go_enter Try.func47, Try.ntmps47
      go_wp2
      go_ret
      exact ⟨by rw [HE.out]; rfl, (Below.refl _ _).alloc (Nat.le_refl _) _⟩
    · have HE : Hid (hasB n sl = false) := Lib.hid (decide_eq_false (show ¬ (0 ≤ n ∧ n < (sl : Int)) from fun h => h2 h.2))
      have b2 : decide (n < (sl : Int)) = false := decide_eq_false h2
      go_enter Try.func47, Try.ntmps47
      go_wp2
      go_ret
      exact ⟨by rw [HE.out]; rfl, (Below.refl _ _).alloc (Nat.le_refl _) _⟩
  · have HE : Hid (hasB n sl = false) := Lib.hid (decide_eq_false (show ¬ (0 ≤ n ∧ n < (sl : Int)) from fun h => h1 h.1))
    have b1 : decide (0 ≤ n) = false := decide_eq_false h1
    go_enter Try.func47, Try.ntmps47
    go_wp2
    go_ret
    exact ⟨by rw [HE.out]; rfl, (Below.refl _ _).alloc (Nat.le_refl _) _⟩

set_option maxRecDepth 100000 in
set_option maxHeartbeats 1000000 in
theorem light_any (sa : Option Addr) (sl sc : Nat) (ea : Option Addr) (el ec : Nat) (w : World) :
    Calls Try.prog 13 #[.agg #[.slice sa sl sc, .slice ea el ec]] w fun r w' => r = .returned (.bool (lightB sl el)) ∧ Below w.heap.size w w' := by
  by_cases h1 : sl ≤ 20
  · have b1 : decide ((sl : Int) ≤ 20) = true := decide_eq_true (by omega)
    by_cases h2 : el ≤ 30
    · have HE : Hid (lightB sl el = true) := Lib.hid (decide_eq_true (show sl ≤ 20 ∧ el ≤ 30 from ⟨h1, h2⟩))
      have b2 : decide ((el : Int) ≤ 30) = true := decide_eq_true (by omega)
      clear h1 h2
      go_enter Try.func13, Try.ntmps13
      go_wp2
      go_ret
      exact ⟨by rw [HE.out]; rfl, (Below.refl _ _).alloc (Nat.le_refl _) _⟩
    · have HE : Hid (lightB sl el = false) := Lib.hid (decide_eq_false (show ¬ (sl ≤ 20 ∧ el ≤ 30) from fun h => h2 h.2))
      have b2 : decide ((el : Int) ≤ 30) = false := decide_eq_false (by omega)
      clear h1 h2
      go_enter Try.func13, Try.ntmps13
      go_wp2
      go_ret
      exact ⟨by rw [HE.out]; rfl, (Below.refl _ _).alloc (Nat.le_refl _) _⟩
  · have HE : Hid (lightB sl el = false) := Lib.hid (decide_eq_false (show ¬ (sl ≤ 20 ∧ el ≤ 30) from fun h => h1 h.1))
    have b1 : decide ((sl : Int) ≤ 20) = false := decide_eq_false (by omega)
    clear h1
    go_enter Try.func13, Try.ntmps13
    go_wp2
    go_ret
    exact ⟨by rw [HE.out]; rfl, (Below.refl _ _).alloc (Nat.le_refl _) _⟩
end Go.Proofs.Ytnnimjaigciedaa
namespace Go.Proofs.Ytnnimjaigciedaa
open Go.RowKit
set_option linter.unusedVariables false

theorem Blk.keep {w w' : World} {g : Nat} {t : TypeId} {cs : List Value} (h : Blk w g t cs) (hb : Below w.heap.size w w') : Blk w' g t cs := Blk.below h hb (Blk.lt h)
theorem ownsRow_far {w : World} {base : Nat} {e : TypeId} {size n : Nat} {v : Value} {xs : List Value} (h : w.ownsRow base e size v n xs) {p : Addr} (hp : p.block < base) (u : Value) : (w.setCell p u).ownsRow base e size v n xs := by
  refine ⟨h.1, ?_⟩
  rcases h.2 with h1 | ⟨g, cap, cur, hv, hb, hg, rest⟩
  · exact .inl h1
  · exact .inr ⟨g, cap, cur, hv, hb, (Below.heap_setCell w p u g (by omega)).trans hg, rest⟩
theorem ownBlock_ne {w : World} {base : Nat} {e : TypeId} {size n : Nat} {v : Value} {xs : List Value} (h : w.ownsRow base e size v n xs) {g : Nat} (hg : g < base) : some g ≠ v.ownBlock := by
  intro e
  have := (h.lt g e.symm).1
  omega

section
variable {ops : Array Oper} {o : Oper} {a : Act} {w : World} {K : Act → World → Prop} {Q : Exit → Act → World → Prop} {E : Prop}
theorem step_yield (hw : Region.wanted o (yielded ops a.tmps) = true) (v : Value) (he : (execOp a.eval o).run Try.prog w = .ok (.value v) w) (h : K (a.put o.dst v) w) :
    if Region.wanted o (yielded ops a.tmps) = true then Oper.wp Try.prog o a w K Q else E := by
  rw [if_pos hw]
  unfold Oper.wp
  rw [he]
  exact h

theorem step_lay1 (hw : Region.wanted o (yielded ops a.tmps) = true) (s : Operand) (ho : o.op = .buildSlice 28 1 #[(0, s)]) (x y : Int) (hs : a.eval s = .agg #[.int .i64 x, .int .i64 y])
    (h : ∀ Y g, Pt Y g 62 x y → Below w.heap.size w Y → K (a.put o.dst (.slice (some ⟨g, 0, none⟩) 1 1)) Y) :
    if Region.wanted o (yielded ops a.tmps) = true then Oper.wp Try.prog o a w K Q else E := by
  rw [if_pos hw]
  have hb : (Instr.buildSlice 28 1 #[(0, .agg #[.int .i64 x, .int .i64 y])]).run Try.prog w = .ok (.slice (some ⟨w.heap.size, 0, none⟩) 1 1) (w.alloc (.cells #[.int .i64 x, .int .i64 y] 62)) := by kernel_rfl
  have e : (execOp a.eval o).run Try.prog w = .ok (.value (.slice (some ⟨w.heap.size, 0, none⟩) 1 1)) (w.alloc (.cells #[.int .i64 x, .int .i64 y] 62)) := by
    unfold execOp
    simp only [ho, List.map_toArray, List.map_cons, List.map_nil, hs, Sem.run_bind, hb, Result.andThen_ok, Sem.run_pure]
  unfold Oper.wp
  rw [e]
  exact h _ _ (Pt.mk_ rfl) ((Below.refl _ _).alloc (Nat.le_refl _) _)

theorem step_app39 (hw : Region.wanted o (yielded ops a.tmps) = true) (s x : Operand) (ho : o.op = .call { callee := .builtin .append, args := #[s, x], argTypes := #[28, 28] })
    (base : Nat) (v : Value) (n : Nat) (xs : List Value) (hs : a.eval s = v) (hO : w.ownsRow base 62 2 v n xs) (g : Nat) (u z : Int) (hx : a.eval x = .slice (some ⟨g, 0, none⟩) 1 1) (hP : Pt w g 62 u z) (hn : n ≤ 1000) (hbase : base ≤ w.heap.size)
    (h : ∀ v' w', w'.ownsRow base 62 2 v' (n + 1) (xs ++ [.int .i64 u, .int .i64 z]) → w.grownBy w' v.ownBlock → K (a.put o.dst v') w') :
    if Region.wanted o (yielded ops a.tmps) = true then Oper.wp Try.prog o a w K Q else E := by
  rw [if_pos hw]
  obtain ⟨i0, hi, hz0, hz1, hz2⟩ := info_parts spot_info
  refine wp_append_own _ s x 28 ho base 62 i0 (.agg #[.int .i64 0, .int .i64 0]) 2 16 Try.underlying28 hi hz0 hz1 hz2 rfl (by decide) v n xs hs hO ⟨g, 0, none⟩ 1 1 [.int .i64 u, .int .i64 z] hx rfl ?_ ?_ ?_ ?_ hbase fun v' w' h1 h2 _ => h v' w' h1 h2
  · intro j t hj
    match j, hj with
    | 0, hj => simp at hj; subst hj; exact hP.c0
    | 1, hj => simp at hj; subst hj; exact hP.c1
  · intro t ht; simp at ht; rcases ht with rfl | rfl <;> rfl
  · unfold maxLen; omega
  · omega
end
end Go.Proofs.Ytnnimjaigciedaa
namespace Go.Proofs.Ytnnimjaigciedaa
open Go.RowKit
set_option linter.unusedVariables false

theorem own_slice {w : World} {base : Nat} {e : TypeId} {size n : Nat} {v : Value} {xs : List Value} (h : w.ownsRow base e size v n xs) : ∃ a c, v = .slice a n c := by
  rcases h.2 with ⟨rfl, rfl⟩ | ⟨g, c, _, rfl, _⟩
  · exact ⟨none, 0, rfl⟩
  · exact ⟨_, c, rfl⟩

section
variable {ops : Array Oper} {o : Oper} {a : Act} {w : World} {K : Act → World → Prop} {Q : Exit → Act → World → Prop} {E : Prop}
theorem step_slice39 (hw : Region.wanted o (yielded ops a.tmps) = true) (d s : Operand) (ho : o.op = .store 28 d s) (g t : Nat) (cs : List Value) (old : Value) (h0 : cs[0]? = some old) (sa : Option Addr) (n c : Nat)
    (hd : a.eval d = .pointer (some ⟨g, 0, none⟩)) (hs : a.eval s = .slice sa n c) (hP : Blk w g t cs)
    (h : K (a.put o.dst undef) (w.setCell ⟨g, 0, none⟩ (.slice sa n c))) : if Region.wanted o (yielded ops a.tmps) = true then Oper.wp Try.prog o a w K Q else E := by
  rw [if_pos hw]
  have k1 := hP.cell 0
  rw [h0] at k1
  have k2 := hP.frozen 0
  have hrun : (storeVar 28 ⟨g, 0, none⟩ (.slice sa n c)).run Try.prog w = .ok () (w.setCell ⟨g, 0, none⟩ (.slice sa n c)) := by go_simp
  unfold Oper.wp execOp
  simp only [ho, hd, hs, Instr.storeAt, Instr.sureAddr, Sem.run_bind, Sem.run_pure, Result.andThen_ok, hrun]
  exact h
end
end Go.Proofs.Ytnnimjaigciedaa
namespace Go.Proofs.Ytnnimjaigciedaa
open Go.RowKit
set_option linter.unusedVariables false

section
variable {P : Program} {ops : Array Oper} {o : Oper} {a : Act} {w : World} {K : Act → World → Prop} {Q : Exit → Act → World → Prop} {E : Prop}
/-- A step whose run is known. -/
theorem step_val (hw : Region.wanted o (yielded ops a.tmps) = true) (v : Value) (W : World) (hr : (execOp a.eval o).run P w = .ok (.value v) W) (h : K (a.put o.dst v) W) :
    if Region.wanted o (yielded ops a.tmps) = true then Oper.wp P o a w K Q else E := by
  rw [if_pos hw]
  unfold Oper.wp
  rw [hr]
  exact h

theorem step_lay (hw : Region.wanted o (yielded ops a.tmps) = true) (t len : Nat) (parts : Array (Nat × Operand)) (ho : o.op = .buildSlice t len parts)
    (vals : Array (Nat × Value)) (hv : (parts.map fun (i, x) => (i, a.eval x)) = vals) (v : Value) (W : World) (hb : (Instr.buildSlice t len vals).run P w = .ok v W) (h : K (a.put o.dst v) W) :
    if Region.wanted o (yielded ops a.tmps) = true then Oper.wp P o a w K Q else E :=
  step_val hw v W (by unfold execOp; simp only [ho, hv, Sem.run_bind, hb, Result.andThen_ok, Sem.run_pure]) h

theorem step_make (hw : Region.wanted o (yielded ops a.tmps) = true) (t : TypeId) (x y : Operand) (ho : o.op = .makeSlice t x y) (v : Value) (W : World)
    (hb : (Instr.makeSlice t (a.eval x) (a.eval y)).run P w = .ok v W) (h : K (a.put o.dst v) W) :
    if Region.wanted o (yielded ops a.tmps) = true then Oper.wp P o a w K Q else E :=
  step_val hw v W (by unfold execOp; simp only [ho, Sem.run_bind, hb, Result.andThen_ok, Sem.run_pure]) h

theorem step_box (hw : Region.wanted o (yielded ops a.tmps) = true) (t : TypeId) (x : Operand) (ho : o.op = .box t x) (v : Value) (W : World)
    (hb : (Instr.box t (a.eval x)).run P w = .ok v W) (h : K (a.put o.dst v) W) :
    if Region.wanted o (yielded ops a.tmps) = true then Oper.wp P o a w K Q else E :=
  step_val hw v W (by unfold execOp; simp only [ho, Sem.run_bind, hb, Result.andThen_ok, Sem.run_pure]) h

theorem step_append (hw : Region.wanted o (yielded ops a.tmps) = true) (s x : Operand) (t t2 : TypeId) (ho : o.op = .call { callee := .builtin .append, args := #[s, x], argTypes := #[t, t2] }) (v : Value) (W : World)
    (hb : ∀ ty, (Builtin.append_ #[t, t2] ty #[a.eval s, a.eval x]).run P w = .ok v W) (h : K (a.put o.dst v) W) :
    if Region.wanted o (yielded ops a.tmps) = true then Oper.wp P o a w K Q else E := by
  have hb := hb o.type
  refine step_val hw v W ?_ h
  unfold execOp
  simp only [ho, resolve, invoke, builtin, Sem.run_bind, Sem.run_pure, Result.andThen_ok, List.map_toArray, List.map_cons, List.map_nil, hb]
end

section
variable {P : Program} {w : World}
/-- A slice that is appended to an empty row: the new one leads to all of its cells, in that row or in a new one; nothing else has turned. -/
theorem append_empty (t e : TypeId) (i : TypeInfo) (z : Value) (size bytes : Nat) (ht : P.underlying t = some (.slice e)) (hi : P.info? e = some i) (hz : i.zero = some z)
    (hsize : i.size = size) (hby : i.bytes = bytes) (hzs : z.cells.size = size) (hsz : 0 < size) (g0 : Nat) (hB : Blk w g0 e [])
    (ad : Option Addr) (m c : Nat) (news : List Value) (hl : news.length = m * size) (hnews : ∀ b, ad = some b → ∀ j u, news[j]? = some u → w.cell? (b.add j) = some u) (hnil : ad = none → m = 0) (h1 : ∀ u ∈ news, u.oneCell' = true)
    (h63 : m ≤ maxLen) (hbytes : m * bytes ≤ 140737488355328) :
    ∃ g cap sp W, (∀ ty, (Builtin.append_ #[t, t] ty #[.slice (some ⟨g0, 0, none⟩) 0 0, .slice ad m c]).run P w = .ok (.slice (some ⟨g, 0, none⟩) m cap) W) ∧ Blk W g e (news ++ sp) ∧ m ≤ cap ∧ cap ≤ maxLen ∧ (g = g0 ∨ g = w.heap.size) ∧ w.grownBy W (some g0) := by
  cases ad with
  | none =>
    obtain rfl := hnil rfl
    have hn : news = [] := List.eq_nil_of_length_eq_zero (by simpa using hl)
    subst hn
    refine ⟨g0, 0, [], w, fun ty => ?_, by simpa using hB, Nat.le_refl _, by unfold maxLen; omega, .inl rfl, World.grownBy.refl w _⟩
    simp [Builtin.append_, run_underlying ht, sizeOf, typeInfo, hi, Builtin.lenOf, Builtin.firstCells, loadCells, loadCellsFrom, storeCells]
  | some b =>
    have hown : w.ownsRow 0 e size (.slice (some ⟨g0, 0, none⟩) 0 0) 0 [] := ⟨by simp, .inr ⟨g0, 0, #[], rfl, Nat.zero_le _, hB, Nat.le_refl _, by unfold maxLen; omega, by simp, by simp⟩⟩
    obtain ⟨v, W, hr, ho, hg, hnl, hat⟩ := run_append_own_at (P := P) w 0 t 0 e i z size bytes ht hi hz hsize hby hzs hsz _ 0 [] hown b m c news hl (hnews b rfl) h1 (by omega) (by rw [Nat.zero_add]; exact hbytes) (Nat.zero_le _)
    rw [Nat.zero_add, List.nil_append] at ho
    rcases ho.2 with ⟨rfl, _⟩ | ⟨g, cap, cur, rfl, _, hgb, hnc, hcm, hcs, htk⟩
    · exact absurd (hnl.1 rfl).1 (by intro h; injection h with h; cases h)
    · refine ⟨g, cap, cur.toList.drop (m * size), W, fun ty => hr, ?_, hnc, hcm, ?_, hg⟩
      · unfold Blk
        rw [← htk, List.take_append_drop]
        exact hgb
      · rcases hat with h | h
        · left
          simpa [Value.ownBlock] using h
        · right
          simpa [Value.ownBlock] using h

/-- A whole row that is copied over another one of its length. -/
theorem run_copy_all (t t2 ty e : TypeId) (i : TypeInfo) (ht : P.underlying t = some (.slice e)) (hi : P.info? e = some i) (g n cd c2 : Nat) (cur : List Value) (hg : Blk w g e cur)
    (ad : Addr) (news : List Value) (hl : news.length = n * i.size) (hlc : cur.length = news.length) (hnews : ∀ j u, news[j]? = some u → w.cell? (ad.add j) = some u) (h1 : ∀ u ∈ news, u.oneCell' = true) :
    (Builtin.copy_ #[t, t2] ty #[.slice (some ⟨g, 0, none⟩) n cd, .slice (some ad) n c2]).run P w = .ok (goInt n) (w.setRow g news.toArray) := by
  have hf := run_firstCells_some (P := P) w i.size n ad n c2 news hl hnews
  have hst := run_storeCells_at P g 0 e news 0 cur.toArray w hg (by simp [hlc]) h1
  have hd : List.drop (0 + 0 + news.length) cur = [] := List.drop_eq_nil_of_le (by omega)
  have ha : (⟨g, 0, none⟩ : Addr).add 0 = ⟨g, 0, none⟩ := by simp [Addr.add]
  rw [hd] at hst
  simp only [Nat.add_zero, List.take_zero, List.nil_append, List.append_nil] at hst
  simp [Builtin.copy_, run_underlying ht, Builtin.lenOf, sizeOf, typeInfo, hi, hf, hst]
end

section
variable {P : Program} {ops : Array Oper} {o : Oper} {a : Act} {w : World} {K : Act → World → Prop} {Q : Exit → Act → World → Prop} {E : Prop}
theorem step_copy (hw : Region.wanted o (yielded ops a.tmps) = true) (d s : Operand) (t t2 : TypeId) (ho : o.op = .call { callee := .builtin .copy, args := #[d, s], argTypes := #[t, t2] }) (v : Value) (W : World)
    (hb : ∀ ty, (Builtin.copy_ #[t, t2] ty #[a.eval d, a.eval s]).run P w = .ok v W) (h : K (a.put o.dst v) W) :
    if Region.wanted o (yielded ops a.tmps) = true then Oper.wp P o a w K Q else E := by
  have hb := hb o.type
  refine step_val hw v W ?_ h
  simp [execOp, ho, resolve, invoke, builtin, hb, Result.andThen]
theorem wpList_copy_run_ {rest : List Oper} (hgd : o.guard = none) (d s : Operand) (t t2 : TypeId) (ho : o.op = .call { callee := .builtin .copy, args := #[d, s], argTypes := #[t, t2] }) (v : Value) (W : World)
    (hb : ∀ ty, (Builtin.copy_ #[t, t2] ty #[a.eval d, a.eval s]).run P w = .ok v W) (h : wpList P ops Q rest (a.put o.dst v) W) : wpList P ops Q (o :: rest) a w := by
  refine wpList_plain hgd fun K hK => ?_
  have hrun := hb o.type
  unfold Oper.wp
  simp [execOp, ho, resolve, invoke, builtin, hrun, Result.andThen]
  exact hK _ _ h
end

section
variable {P : Program} {ops : Array Oper} {o : Oper} {a : Act} {w : World} {K : Act → World → Prop} {Q : Exit → Act → World → Prop} {E : Prop}
/-- An append onto a row of the call's own. -/
theorem step_own (hw : Region.wanted o (yielded ops a.tmps) = true) (s x : Operand) (t : TypeId) (ho : o.op = .call { callee := .builtin .append, args := #[s, x], argTypes := #[t, t] })
    (base : Nat) (e : TypeId) (i : TypeInfo) (z : Value) (size bytes : Nat) (ht : P.underlying t = some (.slice e)) (hi : P.info? e = some i) (hz : i.zero = some z)
    (hsize : i.size = size) (hby : i.bytes = bytes) (hzs : z.cells.size = size) (hsz : 0 < size)
    (v : Value) (n : Nat) (xs : List Value) (hs : a.eval s = v) (hown : w.ownsRow base e size v n xs)
    (ad : Addr) (m c : Nat) (news : List Value) (hx : a.eval x = .slice (some ad) m c) (hl : news.length = m * size) (hnews : ∀ j u, news[j]? = some u → w.cell? (ad.add j) = some u) (h1 : ∀ u ∈ news, u.oneCell' = true)
    (h63 : n + m ≤ maxLen) (hbytes : (n + m) * bytes ≤ 140737488355328) (hbase : base ≤ w.heap.size)
    (h : ∀ v' Y, Y.ownsRow base e size v' (n + m) (xs ++ news) → w.grownBy Y v.ownBlock → (v'.ownBlock = v.ownBlock ∨ v'.ownBlock = some w.heap.size) → (v' = .slice none 0 0 ↔ v = .slice none 0 0 ∧ m = 0) → K (a.put o.dst v') Y) :
    if Region.wanted o (yielded ops a.tmps) = true then Oper.wp P o a w K Q else E := by
  obtain ⟨v', Y, hr, h2, h3, h4, h5⟩ := run_append_own_at (P := P) w base t 0 e i z size bytes ht hi hz hsize hby hzs hsz v n xs hown ad m c news hl hnews h1 h63 hbytes hbase
  exact step_append hw s x t t ho v' Y (fun ty => by rw [hs, hx]; exact hr) (h v' Y h2 h3 h5 h4)
end
theorem below_own {B base n size : Nat} {e : TypeId} {a w w' : World} {v : Value} {xs : List Value} (h : Below B a w) (hg : w.grownBy w' v.ownBlock) (hown : w.ownsRow base e size v n xs) (hB : B ≤ base) (hs : B ≤ w.heap.size) : Below B a w' :=
  h.grown hg hs (fun k hk => Nat.le_trans hB (hown.lt k hk).1)
/-- A slice of one element, laid: its cells. -/
theorem news_of {w : World} {g : Nat} {t : TypeId} {cs : List Value} (h : Blk w g t cs) : ∀ j u, cs[j]? = some u → w.cell? ((⟨g, 0, none⟩ : Addr).add j) = some u := fun j u hu => by
  rw [Go.WideShapes.add_plain, Nat.zero_add, h.cell]; exact hu
end Go.Proofs.Ytnnimjaigciedaa
