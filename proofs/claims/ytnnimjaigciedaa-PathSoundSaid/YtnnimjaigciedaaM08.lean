/-
  Ways in memory, read one by one; what each of them is.
  path's small functions: a node of a seeker, rows of nodes, a trail's end, a trail of one node.
-/
import Derived.Test.YtnnimjaigciedaaWebSv
namespace Go.Proofs.Ytnnimjaigciedaa
open Go.RowKit
set_option linter.unusedVariables false

def stp00 : Stp := ⟨0, 0, 0, 0, 0⟩
/-- A way's cells. -/
def StpAt (w : World) (b o : Nat) (s : Stp) : Prop := b < w.heap.size ∧ ∀ j v, (scells s)[j]? = some v → w.cell? ⟨b, o + j, none⟩ = some v
theorem StpAt.below {w w' : World} {b o : Nat} {s : Stp} (h : StpAt w b o s) (hB : Below w.heap.size w w') : StpAt w' b o s :=
  ⟨Nat.lt_of_lt_of_le h.1 hB.size, fun j v hv => (hB.cell (p := ⟨b, o + j, none⟩) h.1).trans (h.2 j v hv)⟩
def StpRow (w : World) (a : Option Addr) (l : List Stp) : Prop :=
  l = [] ∨ ∃ b off, a = some ⟨b, off, none⟩ ∧ b < w.heap.size ∧ ∀ i, i < l.length → ∀ j v, (scells (l.getD i stp00))[j]? = some v → w.cell? ⟨b, off + i * 5 + j, none⟩ = some v
theorem StpRow.below {w w' : World} {a : Option Addr} {l : List Stp} (h : StpRow w a l) (hB : Below w.heap.size w w') : StpRow w' a l := by
  rcases h with h | ⟨b, off, ha, hb, hc⟩
  · exact .inl h
  · exact .inr ⟨b, off, ha, Nat.lt_of_lt_of_le hb hB.size, fun i hi j v hv => (hB.cell (p := ⟨b, off + i * 5 + j, none⟩) hb).trans (hc i hi j v hv)⟩
theorem StpRow.at_ {w : World} {a : Option Addr} {l : List Stp} {k : Nat} (h : StpRow w a l) (hk : k < l.length) : ∃ b off, a = some ⟨b, off, none⟩ ∧ StpAt w b (off + k * 5) (l.getD k stp00) := by
  rcases h with h | ⟨b, off, ha, hlt, hc⟩
  · rw [h] at hk; simp at hk
  · exact ⟨b, off, ha, hlt, hc k hk⟩
theorem sflat_at (l : List Stp) : ∀ i, i < l.length → ∀ j v, (scells (l.getD i stp00))[j]? = some v → (sflat l)[i * 5 + j]? = some v := by
  induction l with
  | nil => intro i hi; simp at hi
  | cons f r ih =>
    intro i hi j v hv
    have e : sflat (f :: r) = scells f ++ sflat r := by simp [sflat]
    have hl : (scells f).length = 5 := rfl
    rw [e]
    match i, hi with
    | 0, _ =>
      have hj : j < 5 := by
        rcases Nat.lt_or_ge j 5 with h | h
        · exact h
        · rw [List.getElem?_eq_none (by simpa [scells] using h)] at hv; cases hv
      rw [Nat.zero_mul, Nat.zero_add, List.getElem?_append_left (by rw [hl]; exact hj)]
      simpa using hv
    | i + 1, hi =>
      rw [List.getElem?_append_right (by rw [hl]; omega), hl, show (i + 1) * 5 + j - 5 = i * 5 + j by omega]
      exact ih i (by simpa using hi) j v (by simpa using hv)
theorem StpRow.of_own {w : World} {base : Nat} {t : TypeId} {v : Value} {l : List Stp} (h : w.ownsRow base t 5 v l.length (sflat l)) : ∃ a c, v = .slice a l.length c ∧ StpRow w a l ∧ c ≤ maxLen := by
  rcases h.2 with ⟨rfl, h0⟩ | ⟨g, c, cur, rfl, _, hg, _, hcm, _⟩
  · have : l = [] := List.eq_nil_of_length_eq_zero h0
    subst this
    exact ⟨none, 0, rfl, .inl rfl, Nat.zero_le _⟩
  · refine ⟨_, c, rfl, .inr ⟨g, 0, rfl, ?_, fun i hi j v hv => ?_⟩, hcm⟩
    · rcases Nat.lt_or_ge g w.heap.size with h2 | h2
      · exact h2
      · rw [Array.getElem?_eq_none h2] at hg; cases hg
    · have h1 := sflat_at l i hi j v hv
      have h2 := h.cells (g := g) rfl _ _ h1
      rw [Go.WideShapes.add_plain] at h2
      rw [Nat.add_assoc]
      exact h2

/-- What is left behind by who tells ways, with its row told. -/
def RowsPost (w : World) (l : List Stp) (e : Ending) (w' : World) : Prop := ∃ a c, e = .returned (.slice a l.length c) ∧ StpRow w' a l ∧ c ≤ maxLen ∧ Below w.heap.size w w'
theorem StepsPost.rows {f : FuncId} {vs : Array Value} {t : TypeId} {w : World} {l : List Stp} (h : Calls Try.prog f vs w (StepsPost t w l)) : Calls Try.prog f vs w (RowsPost w l) :=
  h.mono fun e w' ⟨v, he, ho, hB⟩ => by
    obtain ⟨a, c, rfl, hr, hc⟩ := StpRow.of_own ho
    exact ⟨a, c, he, hr, hc, hB⟩
theorem openL_mem (es : List Ed) (node amt : Int) : ∀ k, ∀ s ∈ openL es node amt k, ∃ i : Nat, i < k ∧ (s = stp0 i (es.getD i ed0) ∧ sideE (es.getD i ed0) node = 0 ∧ amt ≤ (es.getD i ed0).c ∨ s = stp1 i (es.getD i ed0) ∧ sideE (es.getD i ed0) node = 1 ∧ amt ≤ (es.getD i ed0).d) := by
  intro k
  induction k with
  | zero => intro s hs; simp [openL] at hs
  | succ k ih =>
    intro s hs
    unfold openL at hs
    rcases List.mem_append.1 hs with hs | hs
    · obtain ⟨i, hi, h⟩ := ih s hs
      exact ⟨i, by omega, h⟩
    · refine ⟨k, by omega, ?_⟩
      unfold stepsAt at hs
      split at hs
      · rename_i h0
        split at hs
        · simp at hs; exact .inl ⟨hs, h0, by assumption⟩
        · simp at hs
      · split at hs
        · rename_i h1
          split at hs
          · simp at hs; exact .inr ⟨hs, h1, by assumption⟩
          · simp at hs
        · simp at hs
theorem stepsL_mem {sl : Nat} {es : List Ed} {node amt : Int} {s : Stp} (hs : s ∈ stepsL sl es node amt) : checkE sl es = 0 ∧ ∃ i : Nat, i < es.length ∧ (s = stp0 i (es.getD i ed0) ∧ sideE (es.getD i ed0) node = 0 ∧ amt ≤ (es.getD i ed0).c ∨ s = stp1 i (es.getD i ed0) ∧ sideE (es.getD i ed0) node = 1 ∧ amt ≤ (es.getD i ed0).d) := by
  unfold stepsL at hs
  split at hs
  · rename_i h0
    exact ⟨h0, openL_mem es node amt _ s hs⟩
  · simp at hs
theorem stepsL_length {sl : Nat} {es : List Ed} {node amt : Int} : (stepsL sl es node amt).length ≤ es.length := by
  unfold stepsL
  split
  · exact openL_length es node amt _
  · simp
theorem stp_mem (l : List Stp) (k : Nat) (hk : k < l.length) : l.getD k stp00 ∈ l := by
  rw [show l.getD k stp00 = l[k] by simp [List.getD, hk]]
  exact List.getElem_mem hk
/-- What one of the ways is: its channel, at whose end the node is. -/
theorem step_at {sl : Nat} {es : List Ed} {node amt : Int} {k : Nat} (hk : k < (stepsL sl es node amt).length) : ∃ (i : Nat) (t c b r : Int), (stepsL sl es node amt).getD k stp00 = ⟨i, t, c, b, r⟩ ∧ i < es.length ∧ (sideE (es.getD i ed0) node = 0 ∨ sideE (es.getD i ed0) node = 1) := by
  obtain ⟨_, i, hi, h | h⟩ := stepsL_mem (stp_mem _ k hk)
  · exact ⟨i, _, _, _, _, h.1, hi, .inl h.2.1⟩
  · exact ⟨i, _, _, _, _, h.1, hi, .inr h.2.1⟩
end Go.Proofs.Ytnnimjaigciedaa
namespace Go.Proofs.Ytnnimjaigciedaa
open Go.RowKit
set_option linter.unusedVariables false

set_option maxRecDepth 100000 in
set_option maxHeartbeats 1000000 in
theorem isNode_any (sa : Option Addr) (sl sc : Nat) (ea : Option Addr) (el ec : Nat) (goal amt n : Int) (w : World) :
    Calls Try.prog 81 #[.agg #[.slice sa sl sc, .slice ea el ec, .int .i64 goal, .int .u64 amt], .int .i64 n] w fun r w' => r = .returned (.bool (hasB n sl)) ∧ Below w.heap.size w w' := by
  by_cases h1 : 0 ≤ n
  · have d0 : decide ((0 : Int) ≤ n) = true := decide_eq_true h1
    by_cases h2 : n < (sl : Int)
    · have d1 : decide (n < (sl : Int)) = true := decide_eq_true h2
      have HE : Hid (hasB n sl = true) := Lib.hid (decide_eq_true (show 0 ≤ n ∧ n < (sl : Int) from ⟨h1, h2⟩))
      clear h1 h2
      go_enter Try.func81, Try.ntmps81
      go_wp2
      go_ret
      exact ⟨by rw [HE.out]; rfl, (Below.refl _ _).alloc (Nat.le_refl _) _⟩
    · have d1 : decide (n < (sl : Int)) = false := decide_eq_false h2
      have HE : Hid (hasB n sl = false) := Lib.hid (decide_eq_false (show ¬ (0 ≤ n ∧ n < (sl : Int)) from fun h => h2 h.2))
      clear h1 h2
      go_enter Try.func81, Try.ntmps81
      go_wp2
      go_ret
      exact ⟨by rw [HE.out]; rfl, (Below.refl _ _).alloc (Nat.le_refl _) _⟩
  · have d0 : decide ((0 : Int) ≤ n) = false := decide_eq_false h1
    have HE : Hid (hasB n sl = false) := Lib.hid (decide_eq_false (show ¬ (0 ≤ n ∧ n < (sl : Int)) from fun h => h1 h.1))
    clear h1
    go_enter Try.func81, Try.ntmps81
    go_wp2
    go_ret
    exact ⟨by rw [HE.out]; rfl, (Below.refl _ _).alloc (Nat.le_refl _) _⟩

/-- A row of whole numbers. -/
def IRow (w : World) (a : Option Addr) (l : List Int) : Prop := l = [] ∨ ∃ b off, a = some ⟨b, off, none⟩ ∧ b < w.heap.size ∧ ∀ i, i < l.length → w.cell? ⟨b, off + i, none⟩ = some (.int .i64 (l.getD i 0))
theorem IRow.below {w w' : World} {a : Option Addr} {l : List Int} (h : IRow w a l) (hB : Below w.heap.size w w') : IRow w' a l := by
  rcases h with h | ⟨b, off, ha, hb, hc⟩
  · exact .inl h
  · exact .inr ⟨b, off, ha, Nat.lt_of_lt_of_le hb hB.size, fun i hi => (hB.cell (p := ⟨b, off + i, none⟩) hb).trans (hc i hi)⟩
def ins (xs : List Int) : List Value := xs.map fun x => .int .i64 x
theorem ins_append (a b : List Int) : ins (a ++ b) = ins a ++ ins b := List.map_append
theorem ins_length (xs : List Int) : (ins xs).length = xs.length := List.length_map ..
theorem ins_one (xs : List Int) : ∀ u ∈ ins xs, u.oneCell' = true := fun u hu => by unfold ins at hu; obtain ⟨x, _, rfl⟩ := List.mem_map.1 hu; rfl
theorem ins_at (xs : List Int) (i : Nat) (h : i < xs.length) : (ins xs)[i]? = some (.int .i64 (xs.getD i 0)) := by
  unfold ins
  rw [List.getElem?_map, List.getElem?_eq_getElem h, show xs.getD i 0 = xs[i] by simp [List.getD, h]]
  rfl
theorem IRow.of_own {w : World} {base : Nat} {v : Value} {l : List Int} (h : w.ownsRow base 3 1 v l.length (ins l)) : ∃ a c, v = .slice a l.length c ∧ IRow w a l ∧ c ≤ maxLen := by
  rcases h.2 with ⟨rfl, h0⟩ | ⟨g, c, cur, rfl, _, hg, _, hcm, _⟩
  · have : l = [] := List.eq_nil_of_length_eq_zero h0
    subst this
    exact ⟨none, 0, rfl, .inl rfl, Nat.zero_le _⟩
  · refine ⟨_, c, rfl, .inr ⟨g, 0, rfl, ?_, fun i hi => ?_⟩, hcm⟩
    · rcases Nat.lt_or_ge g w.heap.size with h2 | h2
      · exact h2
      · rw [Array.getElem?_eq_none h2] at hg; cases hg
    · have h2 := h.cells (g := g) rfl i _ (ins_at l i hi)
      rw [Go.WideShapes.add_plain] at h2
      exact h2
theorem IRow.cells {w : World} {ad : Addr} {l : List Int} (h : IRow w (some ad) l) : ∀ j u, (ins l)[j]? = some u → w.cell? (ad.add j) = some u := by
  intro j u hu
  have hj : j < l.length := by
    rcases Nat.lt_or_ge j l.length with h1 | h1
    · exact h1
    · rw [List.getElem?_eq_none (by rw [ins_length]; exact h1)] at hu; cases hu
  rcases h with h0 | ⟨b, off, he, _, hc⟩
  · subst h0; simp at hj
  · injection he with he
    subst he
    rw [Go.WideShapes.add_plain, hc j hj, ← hu, ins_at l j hj]

theorem info3i : (Try.prog.info? 3).map (fun i => (i.zero, i.size, i.bytes)) = some (some (.int .i64 0), 1, 8) := by kernel_rfl
theorem lay58 (w : World) : (Instr.buildSlice 58 0 #[]).run Try.prog w = .ok (.slice (some ⟨w.heap.size, 0, none⟩) 0 0) (w.alloc (.cells #[] 3)) := by kernel_rfl

section
variable {P : Program} {ops : Array Oper} {o : Oper} {a : Act} {w : World} {Q : Exit → Act → World → Prop}
theorem wpList_append_run_ {rest : List Oper} (hgd : o.guard = none) (s x : Operand) (t t2 : TypeId) (ho : o.op = .call { callee := .builtin .append, args := #[s, x], argTypes := #[t, t2] }) (v : Value) (W : World)
    (hb : ∀ ty, (Builtin.append_ #[t, t2] ty #[a.eval s, a.eval x]).run P w = .ok v W) (h : wpList P ops Q rest (a.put o.dst v) W) : wpList P ops Q (o :: rest) a w := by
  refine wpList_plain hgd fun K hK => ?_
  have hrun := hb o.type
  unfold Oper.wp
  simp [execOp, ho, resolve, invoke, builtin, hrun, Result.andThen]
  exact hK _ _ h
end
/-- What a clone of nodes leaves: a list of its own. -/
def IOwn (w : World) (l : List Int) (e : Ending) (w' : World) : Prop := ∃ v, e = .returned v ∧ w'.ownsRow w.heap.size 3 1 v l.length (ins l) ∧ Below w.heap.size w w'

set_option maxRecDepth 100000 in
set_option maxHeartbeats 1000000 in
theorem clone58_any (a : Option Addr) (c n : Nat) (l : List Int) (w : World) (hR : IRow w a l) (hnil : a = none → l = [] ∧ c = 0) (hl : l.length = n) (hl2 : n ≤ 1000) :
    Calls Try.prog 85 #[.slice a n c] w (IOwn w l) := by
  have hq := fun (w : World) (a : Option Addr) (n c n' c' : Nat) => Lib.run_eql_slice_nil (P := Try.prog) w 58 3 a n c n' c' Try.underlying58
  cases a with
  | none =>
    obtain ⟨rfl, rfl⟩ := hnil rfl
    obtain rfl : n = 0 := hl.symm
    go_enter Try.func85, Try.ntmps85
    go_wp2
    go_ret
    exact ⟨_, rfl, World.ownsRow_nil _ _ _ _, Below.refl _ _⟩
  | some ad =>
    have HL := Lib.hid hl
    obtain ⟨i0, hi, hz0, hz1, hz2⟩ := info_parts info3i
    have B0 : Below w.heap.size w (w.alloc (.cells #[] 3)) := (Below.refl _ _).alloc (Nat.le_refl _) _
    have hown : (w.alloc (.cells #[] 3)).ownsRow w.heap.size 3 1 (.slice (some ⟨w.heap.size, 0, none⟩) 0 0) 0 [] := World.ownsRow_made w #[] 0 (Nat.le_refl _) (Nat.zero_le _) rfl
    obtain ⟨v, Y, hr, ho, hg, _, _⟩ := run_append_own_at (P := Try.prog) (w.alloc (.cells #[] 3)) w.heap.size 58 0 3 i0 _ 1 8 Try.underlying58 hi hz0 hz1 hz2 rfl (by decide) _ 0 [] hown ad n c (ins l) (by rw [ins_length, hl, Nat.mul_one]) (hR.below B0).cells (ins_one l) (by unfold maxLen; omega) (by omega) (by simp)
    have HB : Hid (Below w.heap.size w Y) := Lib.hid (B0.grown hg (by simp) (fun k hk => (hown.lt k hk).1))
    have HO : Hid (Y.ownsRow w.heap.size 3 1 v l.length (ins l)) := Lib.hid (by rw [HL.out]; rw [Nat.zero_add, List.nil_append] at ho; exact ho)
    have HR : Hid (∀ ty, (Builtin.append_ #[58, 58] ty #[.slice (some ⟨w.heap.size, 0, none⟩) 0 0, .slice (some ad) n c]).run Try.prog (w.alloc (.cells #[] 3)) = .ok v Y) := Lib.hid (fun ty => hr)
    clear hR hnil hl hg ho hr hown B0
    go_enter Try.func85, Try.ntmps85
    go_wp2_with (at_builtin; refine wpList_append_run_ rfl (.tmp 5) (.tmp 6) 58 58 rfl v Y (fun ty => HR.out ty) ?_)
    go_ret
    exact ⟨v, rfl, HO.out, HB.out⟩
end Go.Proofs.Ytnnimjaigciedaa
