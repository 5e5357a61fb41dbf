/-
  Bytes that the call itself made, and what is laid behind them (bytes, or zeros); bytes that are read; which blocks have turned.
-/
import Derived.Test.YtjkpdfdcjhnjdaaKit
import Derived.Lib.AppendZeros
namespace Go.Proofs.Ytjkpdfdcjhnjdaa
open Go.RowKit
set_option linter.unusedVariables false

theorem append_types {P : Program} (w : World) (t t' ty e e' : TypeId) (i : TypeInfo) (a : Option Addr) (n c : Nat) (x : Value) (ht : P.underlying t = some (.slice e)) (ht' : P.underlying t' = some (.slice e')) (hi : P.info? e = some i) :
    (Builtin.append_ #[t, t'] ty #[.slice a n c, x]).run P w = (Builtin.append_ #[t, t] ty #[.slice a n c, x]).run P w := by
  simp [Builtin.append_, run_underlying ht, run_underlying ht', sizeOf, typeInfo, hi]

/-- Bytes as cells. -/
def byt (l : List Int) : List Value := l.map (Value.int .u8)
/-- A slice of bytes that the call owns. -/
def Own (w : World) (base : Nat) (v : Value) (l : List Int) : Prop := w.ownsRow base 5 1 v l.length (byt l)
/-- A slice of bytes that is read. -/
def Src (w : World) (A : Option Addr) (c : Nat) (l : List Int) : Prop :=
  (A = none → c = 0) ∧ (l = [] ∨ ∃ b off, A = some ⟨b, off, none⟩ ∧ b < w.heap.size ∧ ∀ i, i < l.length → w.cell? ⟨b, off + i, none⟩ = some (.int .u8 (l.getD i 0)))
/-- Where an answer lies: in the old block, or in a new one. -/
def Lies (w : World) (v v' : Value) : Prop := v'.ownBlock = v.ownBlock ∨ ∃ g, w.heap.size ≤ g ∧ v'.ownBlock = some g

theorem byte_info : (Try.prog.info? 5).map (fun i => (i.zero, i.size, i.bytes)) = some (some (.int .u8 0), 1, 1) := by kernel_rfl
theorem byt_append (l m : List Int) : byt l ++ byt m = byt (l ++ m) := by simp [byt]
theorem byt_length (l : List Int) : (byt l).length = l.length := by simp [byt]
theorem byt_take (l : List Int) (n : Nat) : (byt l).take n = byt (l.take n) := by simp [byt]
theorem byt_one (l : List Int) : ∀ u ∈ byt l, u.oneCell' = true := by intro u hu; obtain ⟨n, _, rfl⟩ := List.mem_map.1 hu; rfl

theorem Own.src {w : World} {base : Nat} {v : Value} {l : List Int} (h : Own w base v l) : ∃ A c, v = .slice A l.length c ∧ Src w A c l := by
  rcases h.2 with ⟨rfl, h0⟩ | ⟨g, c, cur, rfl, _, hg, _⟩
  · have : l = [] := List.eq_nil_of_length_eq_zero h0
    subst this
    exact ⟨none, 0, rfl, fun _ => rfl, .inl rfl⟩
  · refine ⟨_, c, rfl, fun h => (by cases h), .inr ⟨g, 0, rfl, ?_, fun i hi => ?_⟩⟩
    · rcases Nat.lt_or_ge g w.heap.size with h2 | h2
      · exact h2
      · rw [Array.getElem?_eq_none h2] at hg; cases hg
    · rw [Nat.zero_add, World.ownsRow.cellAt h i (by omega)]
      simp [byt, List.getD, hi]

set_option maxRecDepth 100000 in
theorem run_app (w : World) (base : Nat) (t t' ty : TypeId) (ht : Try.prog.underlying t = some (.slice 5)) (ht' : Try.prog.underlying t' = some (.slice 5)) (v : Value) (xs l : List Int) (hO : Own w base v xs) (A : Option Addr) (c : Nat) (hS : Src w A c l)
    (hb : xs.length + l.length ≤ 140737488355328) (hbase : base ≤ w.heap.size) :
    ∃ v' w', (Builtin.append_ #[t, t'] ty #[v, .slice A l.length c]).run Try.prog w = .ok v' w' ∧ Own w' base v' (xs ++ l) ∧ w.grownBy w' v.ownBlock ∧ Lies w v v' := by
  obtain ⟨i0, hi, hz0, hz1, hz2⟩ := info_parts byte_info
  obtain ⟨A', c', rfl, _⟩ := hO.src
  rw [append_types w t t' ty 5 5 i0 A' xs.length c' _ ht ht' hi]
  obtain ⟨hc, hl⟩ := hS
  cases A with
  | none =>
    have hl0 : l = [] := by
      rcases hl with h | ⟨b, off, h, _⟩
      · exact h
      · cases h
    subst hl0
    rw [hc rfl]
    refine ⟨_, w, run_append_owned_none (P := Try.prog) w base t ty 5 i0 1 ht hi _ _ _ hO, by simpa using hO, World.grownBy.refl w _, .inl rfl⟩
  | some ad =>
    have hcells : ∀ j u, (byt l)[j]? = some u → w.cell? (ad.add j) = some u := by
      intro j u hu
      rcases hl with rfl | ⟨b, off, h, _, hcell⟩
      · simp [byt] at hu
      · injection h with h
        subst h
        have hj : j < l.length := by
          have := (List.getElem?_eq_some_iff.1 hu).1
          simpa [byt] using this
        rw [Go.WideShapes.add_plain, hcell j hj, ← hu]
        simp [byt, List.getD, hj]
    obtain ⟨v', w', hr, h2, h3, _, h5⟩ := run_append_own_at (P := Try.prog) w base t ty 5 i0 (.int .u8 0) 1 1 ht hi hz0 hz1 hz2 rfl (by omega) _ xs.length (byt xs) hO ad l.length c (byt l) (by simp [byt]) hcells
      (byt_one l) (by unfold maxLen; omega) (by omega) hbase
    refine ⟨v', w', hr, ?_, h3, ?_⟩
    · unfold Own
      rw [List.length_append, ← byt_append]
      exact h2
    · rcases h5 with h5 | h5
      · exact .inl h5
      · exact .inr ⟨_, Nat.le_refl _, h5⟩

theorem wpList_app {w : World} {ops : Array Oper} {rest : List Oper} {o : Oper} {a : Act} {Q : Exit → Act → World → Prop} (hgd : o.guard = none) (s x : Operand) (t t' : TypeId)
    (ho : o.op = .call { callee := .builtin .append, args := #[s, x], argTypes := #[t, t'] }) (ht : Try.prog.underlying t = some (.slice 5)) (ht' : Try.prog.underlying t' = some (.slice 5))
    (base : Nat) (v : Value) (xs l : List Int) (hs : a.eval s = v) (hO : Own w base v xs) (A : Option Addr) (n c : Nat) (hx : a.eval x = .slice A n c) (hn : n = l.length) (hS : Src w A c l) (hb : xs.length + l.length ≤ 140737488355328) (hbase : base ≤ w.heap.size)
    (h : ∀ v' w', Own w' base v' (xs ++ l) → w.grownBy w' v.ownBlock → Lies w v v' → wpList Try.prog ops Q rest (a.put o.dst v') w') : wpList Try.prog ops Q (o :: rest) a w := by
  subst hn
  refine wpList_plain hgd fun K hK => ?_
  obtain ⟨v', w', hr, h2, h3, h4⟩ := run_app w base t t' o.type ht ht' v xs l hO A c hS hb hbase
  unfold Oper.wp execOp
  simp only [ho, resolve, invoke, builtin, Sem.run_bind, Sem.run_pure, Result.andThen_ok, List.map_toArray, List.map_cons, List.map_nil, hs, hx, hr]
  exact hK _ _ (h v' w' h2 h3 h4)

/-- The same in a region that draws its order. -/
theorem step_app {w : World} {ops : Array Oper} {o : Oper} {a : Act} {K : Act → World → Prop} {Q : Exit → Act → World → Prop} {E : Prop} (hw : Region.wanted o (yielded ops a.tmps) = true) (s x : Operand) (t t' : TypeId)
    (ho : o.op = .call { callee := .builtin .append, args := #[s, x], argTypes := #[t, t'] }) (ht : Try.prog.underlying t = some (.slice 5)) (ht' : Try.prog.underlying t' = some (.slice 5))
    (base : Nat) (v : Value) (xs l : List Int) (hs : a.eval s = v) (hO : Own w base v xs) (A : Option Addr) (n c : Nat) (hx : a.eval x = .slice A n c) (hn : n = l.length) (hS : Src w A c l) (hb : xs.length + l.length ≤ 140737488355328) (hbase : base ≤ w.heap.size)
    (h : ∀ v' w', Own w' base v' (xs ++ l) → w.grownBy w' v.ownBlock → Lies w v v' → K (a.put o.dst v') w') : if Region.wanted o (yielded ops a.tmps) = true then Oper.wp Try.prog o a w K Q else E := by
  subst hn
  obtain ⟨v', w', hr, h2, h3, h4⟩ := run_app w base t t' o.type ht ht' v xs l hO A c hS hb hbase
  refine step_val hw v' w' ?_ (h v' w' h2 h3 h4)
  unfold execOp
  simp only [ho, resolve, invoke, builtin, Sem.run_bind, Sem.run_pure, Result.andThen_ok, List.map_toArray, List.map_cons, List.map_nil, hs, hx, hr]

theorem zeroCells_byt (n : Nat) : (Builtin.zeroCells (Value.cells (.int .u8 0)) n).toList = byt (List.replicate n 0) := by
  have : (Value.cells (.int .u8 0)) = #[Value.int .u8 0] := rfl
  rw [this]
  apply List.ext_getElem?
  intro i
  simp [Builtin.zeroCells, byt, List.getElem?_replicate]
  split <;> simp_all [Nat.mod_one]

set_option maxRecDepth 100000 in
/-- append of so many zeros (Go's append of a make). -/
theorem run_app0 (w : World) (base : Nat) (t t' ty : TypeId) (kn : IntKind) (ht : Try.prog.underlying t = some (.slice 5)) (ht' : Try.prog.underlying t' = some (.int kn)) (v : Value) (xs : List Int) (n : Nat) (hO : Own w base v xs)
    (hb : xs.length + n ≤ 1048576) (hbase : base ≤ w.heap.size) :
    ∃ v' w', (Builtin.append_ #[t, t'] ty #[v, .int .i64 n]).run Try.prog w = .ok v' w' ∧ Own w' base v' (xs ++ List.replicate n 0) ∧ w.grownBy w' v.ownBlock ∧ Lies w v v' := by
  obtain ⟨i0, hi, hz0, hz1, hz2⟩ := info_parts byte_info
  have hw : IntKind.i64.wrap (n : Int) = n := by rw [IntKind.wrap_i64]; omega
  have hneg : ¬ ((n : Int) < 0) := by omega
  have h48i : ¬ (281474976710656 < (n : Int) * (i0.bytes : Int)) := by rw [hz2]; omega
  have hzc : ∀ m, (Builtin.zeroCells (Value.cells (.int .u8 0)) m).size = m := fun m => by rw [size_zeroCells]; show m * 1 = m; omega
  have hlenz : (byt (xs ++ List.replicate n 0)).length = (xs ++ List.replicate n 0).length * 1 := by rw [byt_length]; omega
  have hlen2 : (xs ++ List.replicate n 0).length = xs.length + n := by simp
  have hz : ∀ m, byt (List.replicate m 0) = (Builtin.zeroCells (Value.cells (.int .u8 0)) m).toList := fun m => (zeroCells_byt m).symm
  have grown : ∀ (old : Nat), old < xs.length + n → ∀ (row : Option Nat),
      Own (w.drew.alloc (.cells ((byt xs).toArray ++ Builtin.zeroCells (Value.cells (.int .u8 0)) n ++ Builtin.zeroCells (Value.cells (.int .u8 0)) (grownCap w (xs.length + n) old 5 - (xs.length + n))) 5)) base
        (.slice (some ⟨w.heap.size, 0, none⟩) (xs.length + n) (grownCap w (xs.length + n) old 5)) (xs ++ List.replicate n 0) ∧
      w.grownBy (w.drew.alloc (.cells ((byt xs).toArray ++ Builtin.zeroCells (Value.cells (.int .u8 0)) n ++ Builtin.zeroCells (Value.cells (.int .u8 0)) (grownCap w (xs.length + n) old 5 - (xs.length + n))) 5)) row := by
    intro old ho row
    have hge := grownCap_ge w (xs.length + n) old 5
    have hcm : grownCap w (xs.length + n) old 5 ≤ maxLen := grownCap_le_maxLen w (xs.length + n) old 5 (by unfold maxLen; omega)
    refine ⟨⟨hlenz, .inr ⟨w.heap.size, _, _, by rw [hlen2], hbase, heap_alloc_new w.drew _, by omega, hcm, ?_, ?_⟩⟩, ⟨rfl, rfl, rfl, by simp, fun k hk _ => heap_alloc_old w.drew _ (by exact hk)⟩⟩
    · simp only [Array.size_append, List.size_toArray, hzc, byt_length]
      omega
    · simp only [Array.toList_append, ← hz]
      rw [byt_append, hlen2, Nat.mul_one]
      exact List.take_left' (by rw [byt_length, hlen2])
  rcases hO.2 with ⟨rfl, hx0⟩ | ⟨g, cap, cur, rfl, hbg, hg, hnc, hcm, hcs, htake⟩
  · have hx : xs = [] := List.eq_nil_of_length_eq_zero hx0
    subst hx
    by_cases hm : n = 0
    · subst hm
      refine ⟨.slice none 0 0, w, ?_, World.ownsRow_nil w base 5 1, World.grownBy.refl w _, .inl rfl⟩
      simp [Builtin.append_, run_underlying ht, run_underlying ht', sizeOf, typeInfo, hi, asInt, asIntOf, show IntKind.i64.wrap 0 = 0 by decide]
    · have hr := Lib.run_append_nil_zeros (P := Try.prog) w t t' ty 5 i0 (.int .u8 0) .i64 kn ht ht' hi hz0 n (by omega) (by omega) (by omega) (by rw [hz2]; omega)
      have hgr := grown 0 (by simp only [List.length_nil]; omega) (Value.ownBlock (.slice none 0 0))
      simp only [List.length_nil, Nat.zero_add, byt, List.map_nil, Array.empty_append, List.nil_append] at hgr ⊢
      exact ⟨_, _, hr, hgr.1, hgr.2, .inr ⟨_, Nat.le_refl _, rfl⟩⟩
  · have hcs' : cur.size = cap := by omega
    by_cases hroom : xs.length + n ≤ cap
    · by_cases hm : n = 0
      · subst hm
        have hroom' : xs.length ≤ cap := by omega
        refine ⟨.slice (some ⟨g, 0, none⟩) xs.length cap, w, ?_, by simpa using hO, World.grownBy.refl w _, .inl rfl⟩
        simp [Builtin.append_, run_underlying ht, run_underlying ht', sizeOf, typeInfo, hi, asInt, asIntOf, show IntKind.i64.wrap 0 = 0 by decide, hroom', storeCells]
      · have hst := run_storeCells_at Try.prog g (xs.length * i0.size) 5 (byt (List.replicate n 0)) 0 cur w hg (by rw [byt_length, List.length_replicate, hz1]; omega) (byt_one _)
        simp only [Nat.add_zero] at hst
        rw [hz1, Nat.mul_one] at hst
        have hne : ¬ (n * i0.size = 0) := by rw [hz1]; omega
        refine ⟨.slice (some ⟨g, 0, none⟩) (xs.length + n) cap, w.setRow g (cur.toList.take xs.length ++ byt (List.replicate n 0) ++ cur.toList.drop (xs.length + (byt (List.replicate n 0)).length)).toArray, ?_, ⟨hlenz, .inr ⟨g, cap, _, by rw [hlen2], hbg, setRow_heap w g cur _ 5 _ hg, by omega, hcm, ?_, ?_⟩⟩, ⟨rfl, rfl, rfl, by simp, fun k _ hk => setRow_other w g k _ (fun e => hk (by simp [Value.ownBlock, e]))⟩, .inl rfl⟩
        · simp [Builtin.append_, run_underlying ht, run_underlying ht', sizeOf, typeInfo, zeroValue, hi, hz0, hz1, asInt, asIntOf, hw, hneg, h48i, hm, hroom, Addr.add_lit, ← hz, hst]
        · simp only [List.size_toArray, List.length_append, List.length_take, List.length_drop, Array.length_toList, byt_length, List.length_replicate]
          omega
        · simp only [Nat.mul_one] at htake ⊢
          rw [htake, byt_append, hlen2]
          exact List.take_left' (by rw [byt_length, hlen2])
    · have holds : ∀ j u, (byt xs)[j]? = some u → w.cell? ((⟨g, 0, none⟩ : Addr).add j) = some u := World.ownsRow.cells hO (g := g) rfl
      have hgr := grown cap (by omega) (Value.ownBlock (.slice (some ⟨g, 0, none⟩) xs.length cap))
      refine ⟨_, _, ?_, hgr.1, hgr.2, .inr ⟨_, Nat.le_refl _, rfl⟩⟩
      have hn : ¬ (xs.length + n ≤ cap) := by omega
      have h63' : ¬ (9223372036854775807 < ((xs.length : Int) + (n : Int))) := by omega
      have hfit := growslice_fits (bytes := 1) (need := xs.length + n) (old := cap) (by omega) (by omega)
      have h48' : ¬ (281474976710656 < Builtin.nextslicecap (xs.length + n) cap * i0.bytes) := by rw [hz2]; omega
      have hfo := run_firstCells_some (P := Try.prog) w.drew i0.size xs.length ⟨g, 0, none⟩ xs.length cap (byt xs) (by rw [byt_length, hz1]; omega) (by simpa using holds)
      rw [hz1] at hfo
      by_cases hm : n = 0
      · omega
      · simp [Builtin.append_, run_underlying ht, run_underlying ht', sizeOf, typeInfo, zeroValue, hi, hz0, hz1, asInt, asIntOf, hw, hneg, h48i, hm, hn, h63', h48', Question.forced, hfo, newRow, grownCap]

theorem step_app0 {w : World} {ops : Array Oper} {o : Oper} {a : Act} {K : Act → World → Prop} {Q : Exit → Act → World → Prop} {E : Prop} (hw : Region.wanted o (yielded ops a.tmps) = true) (s x : Operand) (t t' : TypeId) (kn : IntKind)
    (ho : o.op = .call { callee := .builtin .append, args := #[s, x], argTypes := #[t, t'] }) (ht : Try.prog.underlying t = some (.slice 5)) (ht' : Try.prog.underlying t' = some (.int kn))
    (base : Nat) (v : Value) (xs : List Int) (n : Nat) (hs : a.eval s = v) (hO : Own w base v xs) (hx : a.eval x = .int .i64 n) (hb : xs.length + n ≤ 1048576) (hbase : base ≤ w.heap.size)
    (h : ∀ v' w', Own w' base v' (xs ++ List.replicate n 0) → w.grownBy w' v.ownBlock → Lies w v v' → K (a.put o.dst v') w') : if Region.wanted o (yielded ops a.tmps) = true then Oper.wp Try.prog o a w K Q else E := by
  obtain ⟨v', w', hr, h2, h3, h4⟩ := run_app0 w base t t' o.type kn ht ht' v xs n hO hb hbase
  refine step_val hw v' w' ?_ (h v' w' h2 h3 h4)
  unfold execOp
  simp only [ho, resolve, invoke, builtin, Sem.run_bind, Sem.run_pure, Result.andThen_ok, List.map_toArray, List.map_cons, List.map_nil, hs, hx, hr]

/-- Only blocks of S, and what is new, have turned. -/
structure OnlyS (S : Nat → Prop) (w w' : World) : Prop where
  os : w'.os = w.os
  tape : w'.tape = w.tape
  output : w'.output = w.output
  size : w.heap.size ≤ w'.heap.size
  block : ∀ i, i < w.heap.size → ¬ S i → w'.heap[i]? = w.heap[i]?
theorem OnlyS.refl (S : Nat → Prop) (w : World) : OnlyS S w w := ⟨rfl, rfl, rfl, Nat.le_refl _, fun _ _ _ => rfl⟩
theorem OnlyS.trans {S : Nat → Prop} {u v w : World} (h : OnlyS S u v) (k : OnlyS S v w) : OnlyS S u w :=
  ⟨k.os.trans h.os, k.tape.trans h.tape, k.output.trans h.output, Nat.le_trans h.size k.size, fun i hi h1 => (k.block i (Nat.lt_of_lt_of_le hi h.size) h1).trans (h.block i hi h1)⟩
theorem OnlyS.setCell {S : Nat → Prop} {a w : World} (h : OnlyS S a w) {p : Addr} (hp : S p.block ∨ a.heap.size ≤ p.block) (u : Value) : OnlyS S a (w.setCell p u) :=
  ⟨h.os, h.tape, h.output, by simpa [World.setCell] using h.size, fun i hi h1 => (Below.heap_setCell w p u i (by rintro rfl; rcases hp with hp | hp; exact h1 hp; omega)).trans (h.block i hi h1)⟩
theorem OnlyS.drewN {S : Nat → Prop} {a w : World} (h : OnlyS S a w) (n : Nat) : OnlyS S a (w.drewN n) := ⟨h.os, h.tape, h.output, h.size, h.block⟩
theorem OnlyS.below {S : Nat → Prop} {B : Nat} {a w : World} (h : OnlyS S a w) (hS : ∀ i, S i → B ≤ i) (hB : B ≤ a.heap.size) : Below B a w :=
  ⟨h.os, h.tape, h.output, h.size, fun i hi => h.block i (by omega) (fun hs => by have := hS i hs; omega)⟩
theorem OnlyS.of_below {S : Nat → Prop} {a w : World} (h : Below a.heap.size a w) : OnlyS S a w := ⟨h.os, h.tape, h.output, h.size, fun i hi _ => h.block i hi⟩
theorem OnlyS.grown {S : Nat → Prop} {a w w' : World} {r : Option Nat} (h : OnlyS S a w) (hg : w.grownBy w' r) (hr : ∀ g, r = some g → S g ∨ a.heap.size ≤ g) : OnlyS S a w' :=
  ⟨hg.os.trans h.os, hg.tape.trans h.tape, hg.output.trans h.output, Nat.le_trans h.size hg.size, fun i hi h1 => (hg.block i (Nat.lt_of_lt_of_le hi h.size) (fun e => by
    rcases hr i e.symm with h2 | h2
    · exact h1 h2
    · omega)).trans (h.block i hi h1)⟩
theorem OnlyS.mono {S T : Nat → Prop} {a w : World} (h : OnlyS S a w) (hST : ∀ i, S i → T i) : OnlyS T a w := ⟨h.os, h.tape, h.output, h.size, fun i hi h1 => h.block i hi (fun hs => h1 (hST i hs))⟩
theorem Blk.onlyS {S : Nat → Prop} {i : Nat} {a w : World} {t : TypeId} {cs : List Value} (h : Blk a i t cs) (ho : OnlyS S a w) (h1 : ¬ S i) : Blk w i t cs := (ho.block i h.lt h1).trans h
theorem OnlyS.cell {S : Nat → Prop} {a w : World} (h : OnlyS S a w) {p : Addr} (hp : p.block < a.heap.size) (hs : ¬ S p.block) : w.cell? p = a.cell? p := by
  have := h.block p.block hp hs
  unfold World.cell?
  rw [this]

theorem Own.below {w w' : World} {base B : Nat} {v : Value} {l : List Int} (h : Own w base v l) (hB : Below B w w') (hb : w.heap.size ≤ B) : Own w' base v l := by
  refine ⟨h.1, ?_⟩
  rcases h.2 with h1 | ⟨g, cap, cur, hv, hb, hg, rest⟩
  · exact .inl h1
  · have hlt : g < w.heap.size := by
      rcases Nat.lt_or_ge g w.heap.size with h2 | h2
      · exact h2
      · rw [Array.getElem?_eq_none h2] at hg; cases hg
    exact .inr ⟨g, cap, cur, hv, hb, (hB.block g (by omega)).trans hg, rest⟩
theorem Own.onlyS {S : Nat → Prop} {w w' : World} {base : Nat} {v : Value} {l : List Int} (h : Own w base v l) (ho : OnlyS S w w') (hs : ∀ g, v.ownBlock = some g → ¬ S g) : Own w' base v l := by
  refine ⟨h.1, ?_⟩
  rcases h.2 with h1 | ⟨g, cap, cur, hv, hb, hg, rest⟩
  · exact .inl h1
  · have hlt : g < w.heap.size := by
      rcases Nat.lt_or_ge g w.heap.size with h2 | h2
      · exact h2
      · rw [Array.getElem?_eq_none h2] at hg; cases hg
    exact .inr ⟨g, cap, cur, hv, hb, (ho.block g hlt (hs g (by rw [hv]; rfl))).trans hg, rest⟩
theorem Own.nil (w : World) (base : Nat) : Own w base (.slice none 0 0) [] := World.ownsRow_nil w base 5 1
theorem Own.lt {w : World} {base : Nat} {v : Value} {l : List Int} (h : Own w base v l) : ∀ g, v.ownBlock = some g → base ≤ g ∧ g < w.heap.size := World.ownsRow.lt h
theorem Own.blk {w : World} {base g : Nat} {v : Value} {l : List Int} (h : Own w base v l) (hv : v.ownBlock = some g) : ∃ cs, Blk w g 5 cs := by
  rcases h.2 with ⟨rfl, _⟩ | ⟨g', cap, cur, rfl, _, hg, _⟩
  · cases hv
  · simp [Value.ownBlock] at hv
    subst hv
    exact ⟨cur.toList, by unfold Blk; simpa using hg⟩
theorem Own.ne {w : World} {base b : Nat} {v : Value} {l : List Int} {t : TypeId} {cs : List Value} (h : Own w base v l) (hb : Blk w b t cs) (ht : t ≠ 5) : v.ownBlock ≠ some b := fun e => by
  obtain ⟨cs2, h2⟩ := h.blk e
  exact Blk.ne_ hb h2 ht rfl
theorem Src.below {w w' : World} {A : Option Addr} {c : Nat} {l : List Int} (h : Src w A c l) (hB : Below w.heap.size w w') : Src w' A c l := by
  refine ⟨h.1, ?_⟩
  rcases h.2 with h1 | ⟨b, off, h1, h2, h3⟩
  · exact .inl h1
  · exact .inr ⟨b, off, h1, Nat.lt_of_lt_of_le h2 hB.size, fun i hi => by rw [hB.cell (p := ⟨b, off + i, none⟩) h2]; exact h3 i hi⟩
theorem Src.onlyS {S : Nat → Prop} {w w' : World} {A : Option Addr} {c : Nat} {l : List Int} (h : Src w A c l) (ho : OnlyS S w w') (hs : ∀ a, A = some a → ¬ S a.block) : Src w' A c l := by
  refine ⟨h.1, ?_⟩
  rcases h.2 with h1 | ⟨b, off, h1, h2, h3⟩
  · exact .inl h1
  · exact .inr ⟨b, off, h1, Nat.lt_of_lt_of_le h2 ho.size, fun i hi => by rw [ho.cell (p := ⟨b, off + i, none⟩) h2 (hs ⟨b, off, none⟩ h1)]; exact h3 i hi⟩
theorem Src.lit (w : World) (cs : Array Value) (l : List Int) (h : cs.toList = byt l) : Src (w.alloc (.cells cs 5)) (some ⟨w.heap.size, 0, none⟩) l.length l := by
  refine ⟨fun h => (by cases h), .inr ⟨w.heap.size, 0, rfl, by simp, fun i hi => ?_⟩⟩
  rw [Nat.zero_add, World.cell?_alloc_at _ _ _ _ rfl, ← Array.getElem?_toList, h]
  simp [byt, List.getD, hi]
theorem Src.litm (w : World) (cs : Array Value) (fr : Nat × Nat) (l : List Int) (h : cs.toList = byt l) : Src (w.alloc (.cells cs 5 fr)) (some ⟨w.heap.size, 0, none⟩) l.length l := by
  refine ⟨fun h => (by cases h), .inr ⟨w.heap.size, 0, rfl, by simp, fun i hi => ?_⟩⟩
  rw [Nat.zero_add, World.cell?_alloc_mark, ← Array.getElem?_toList, h]
  simp [byt, List.getD, hi]
/-- An empty literal. -/
theorem Own.lit0 (w : World) : Own (w.alloc (.cells #[] 5)) w.heap.size (.slice (some ⟨w.heap.size, 0, none⟩) 0 0) [] := World.ownsRow_made w #[] 0 (Nat.le_refl _) (Nat.zero_le _) rfl
theorem Own.base {w : World} {base base' : Nat} {v : Value} {l : List Int} (h : Own w base v l) (hb : base' ≤ base) : Own w base' v l := by
  refine ⟨h.1, ?_⟩
  rcases h.2 with h1 | ⟨g, cap, cur, hv, hb2, rest⟩
  · exact .inl h1
  · exact .inr ⟨g, cap, cur, hv, Nat.le_trans hb hb2, rest⟩

/-- Bytes as a text. -/
def txt (l : List Int) : ByteArray := l.foldl (fun r n => r.push (UInt8.ofNat n.toNat)) ByteArray.empty
theorem to_string (w : World) (A : Option Addr) (c n : Nat) (l : List Int) (hn : n = l.length) (hS : Src w A c l) : (convert 27 9 (.slice A n c)).run Try.prog w = .ok (.string (txt l)) w := by
  subst hn
  rw [run_convert_bytes_string w 27 9 5 A l.length c Try.underlying27 Try.underlying5 Try.underlying9]
  rcases hS.2 with rfl | ⟨b, off, rfl, _, hc⟩
  · cases A with
    | none => rfl
    | some ad =>
      refine run_bytesToString w ad 0 c [] ?_
      exact run_loadCells_list w ad [] (by simp)
  · refine run_bytesToString w _ l.length c l ?_
    have h := run_loadCells_list (P := Try.prog) w ⟨b, off, none⟩ (l.map (Value.int .u8)) (by
      intro j v hv
      have hj : j < l.length := by
        have := (List.getElem?_eq_some_iff.1 hv).1
        simpa using this
      rw [Go.WideShapes.add_plain, hc j hj, ← hv]
      simp [List.getD, hj])
    simpa using h
end Go.Proofs.Ytjkpdfdcjhnjdaa
