/-
  Bytes that the call itself made, and what is laid behind them: append of bytes to a slice of bytes, whatever the names of the two types; octet.layFour (function 59): a number's four bytes, the highest first.
-/
import Derived.Test.YtbdjlnejlkiijaaDoorRRRProg
import Derived.WalkKit
import Derived.WalkSpells
import Derived.WalkSmall
import Derived.LoopN
import Derived.Lib.Hide
import Derived.Maps.AppendAt
import Derived.Deep.Draws
import Derived.Deep.QuietTactic
import Derived.BigQuiet
namespace Go.Proofs.YtbdjlnejlkiijaaDoorRRR.Oct
open Go.RowKit
set_option linter.unusedVariables false

theorem append_types {P : Program} (w : World) (t t' ty e e' : TypeId) (i : TypeInfo) (a : Option Addr) (n c : Nat) (x : Value) (ht : P.underlying t = some (.slice e)) (ht' : P.underlying t' = some (.slice e')) (hi : P.info? e = some i) :
    (Builtin.append_ #[t, t'] ty #[.slice a n c, x]).run P w = (Builtin.append_ #[t, t] ty #[.slice a n c, x]).run P w := by
  simp [Builtin.append_, run_underlying ht, run_underlying ht', sizeOf, typeInfo, hi]

/-- Bytes as cells. -/
def byt (l : List Int) : List Value := l.map (Value.int .u8)
/-- A slice of bytes that the call owns. -/
def Own (w : World) (base : Nat) (v : Value) (l : List Int) : Prop := w.ownsRow base 5 1 v l.length (byt l)
/-- A slice of bytes that is read. -/
def Src (w : World) (A : Option Addr) (c : Nat) (l : List Int) : Prop :=
  (A = none → c = 0) ∧ (l = [] ∨ ∃ b off, A = some ⟨b, off, none⟩ ∧ b < w.heap.size ∧ ∀ i, i < l.length → w.cell? ⟨b, off + i, none⟩ = some (.int .u8 (l.getD i 0)))
/-- Where an answer lies: in the old block, or in a new one. -/
def Lies (w : World) (v v' : Value) : Prop := v'.ownBlock = v.ownBlock ∨ ∃ g, w.heap.size ≤ g ∧ v'.ownBlock = some g

theorem byte_info : (Tryd.prog.info? 5).map (fun i => (i.zero, i.size, i.bytes)) = some (some (.int .u8 0), 1, 1) := by kernel_rfl

theorem byt_append (l m : List Int) : byt l ++ byt m = byt (l ++ m) := by simp [byt]

theorem Own.src {w : World} {base : Nat} {v : Value} {l : List Int} (h : Own w base v l) : ∃ A c, v = .slice A l.length c ∧ Src w A c l := by
  rcases h.2 with ⟨rfl, h0⟩ | ⟨g, c, cur, rfl, _, hg, _⟩
  · have : l = [] := List.eq_nil_of_length_eq_zero h0
    subst this
    exact ⟨none, 0, rfl, fun _ => rfl, .inl rfl⟩
  · refine ⟨_, c, rfl, fun h => (by cases h), .inr ⟨g, 0, rfl, ?_, fun i hi => ?_⟩⟩
    · rcases Nat.lt_or_ge g w.heap.size with h2 | h2
      · exact h2
      · rw [Array.getElem?_eq_none h2] at hg; cases hg
    · rw [Nat.zero_add, World.ownsRow.cellAt h i (by omega)]
      simp [byt, List.getD, hi]

set_option maxRecDepth 100000 in
theorem run_app (w : World) (base : Nat) (t t' ty : TypeId) (ht : Tryd.prog.underlying t = some (.slice 5)) (ht' : Tryd.prog.underlying t' = some (.slice 5)) (v : Value) (xs l : List Int) (hO : Own w base v xs) (A : Option Addr) (c : Nat) (hS : Src w A c l)
    (hb : xs.length + l.length ≤ 140737488355328) (hbase : base ≤ w.heap.size) :
    ∃ v' w', (Builtin.append_ #[t, t'] ty #[v, .slice A l.length c]).run Tryd.prog w = .ok v' w' ∧ Own w' base v' (xs ++ l) ∧ w.grownBy w' v.ownBlock ∧ Lies w v v' := by
  obtain ⟨i0, hi, hz0, hz1, hz2⟩ := info_parts byte_info
  obtain ⟨A', c', rfl, _⟩ := hO.src
  rw [append_types w t t' ty 5 5 i0 A' xs.length c' _ ht ht' hi]
  obtain ⟨hc, hl⟩ := hS
  cases A with
  | none =>
    have hl0 : l = [] := by
      rcases hl with h | ⟨b, off, h, _⟩
      · exact h
      · cases h
    subst hl0
    rw [hc rfl]
    refine ⟨_, w, run_append_owned_none (P := Tryd.prog) w base t ty 5 i0 1 ht hi _ _ _ hO, by simpa using hO, World.grownBy.refl w _, .inl rfl⟩
  | some ad =>
    have hcells : ∀ j u, (byt l)[j]? = some u → w.cell? (ad.add j) = some u := by
      intro j u hu
      rcases hl with rfl | ⟨b, off, h, _, hcell⟩
      · simp [byt] at hu
      · injection h with h
        subst h
        have hj : j < l.length := by
          have := (List.getElem?_eq_some_iff.1 hu).1
          simpa [byt] using this
        rw [Go.WideShapes.add_plain, hcell j hj, ← hu]
        simp [byt, List.getD, hj]
    obtain ⟨v', w', hr, h2, h3, _, h5⟩ := run_append_own_at (P := Tryd.prog) w base t ty 5 i0 (.int .u8 0) 1 1 ht hi hz0 hz1 hz2 rfl (by omega) _ xs.length (byt xs) hO ad l.length c (byt l) (by simp [byt]) hcells
      (by intro u hu; obtain ⟨n, _, rfl⟩ := List.mem_map.1 hu; rfl) (by unfold maxLen; omega) (by omega) hbase
    refine ⟨v', w', hr, ?_, h3, ?_⟩
    · unfold Own
      rw [List.length_append, ← byt_append]
      exact h2
    · rcases h5 with h5 | h5
      · exact .inl h5
      · exact .inr ⟨_, Nat.le_refl _, h5⟩

theorem wpList_app {w : World} {ops : Array Oper} {rest : List Oper} {o : Oper} {a : Act} {Q : Exit → Act → World → Prop} (hgd : o.guard = none) (s x : Operand) (t t' : TypeId)
    (ho : o.op = .call { callee := .builtin .append, args := #[s, x], argTypes := #[t, t'] }) (ht : Tryd.prog.underlying t = some (.slice 5)) (ht' : Tryd.prog.underlying t' = some (.slice 5))
    (base : Nat) (v : Value) (xs l : List Int) (hs : a.eval s = v) (hO : Own w base v xs) (A : Option Addr) (n c : Nat) (hx : a.eval x = .slice A n c) (hn : n = l.length) (hS : Src w A c l) (hb : xs.length + l.length ≤ 140737488355328) (hbase : base ≤ w.heap.size)
    (h : ∀ v' w', Own w' base v' (xs ++ l) → w.grownBy w' v.ownBlock → Lies w v v' → wpList Tryd.prog ops Q rest (a.put o.dst v') w') : wpList Tryd.prog ops Q (o :: rest) a w := by
  subst hn
  refine wpList_plain hgd fun K hK => ?_
  obtain ⟨v', w', hr, h2, h3, h4⟩ := run_app w base t t' o.type ht ht' v xs l hO A c hS hb hbase
  unfold Oper.wp execOp
  simp only [ho, resolve, invoke, builtin, Sem.run_bind, Sem.run_pure, Result.andThen_ok, List.map_toArray, List.map_cons, List.map_nil, hs, hx, hr]
  exact hK _ _ (h v' w' h2 h3 h4)

theorem Own.below {w w' : World} {base : Nat} {v : Value} {l : List Int} (h : Own w base v l) (hB : Below w.heap.size w w') : Own w' base v l := by
  refine ⟨h.1, ?_⟩
  rcases h.2 with h1 | ⟨g, cap, cur, hv, hb, hg, rest⟩
  · exact .inl h1
  · have hlt : g < w.heap.size := by
      rcases Nat.lt_or_ge g w.heap.size with h2 | h2
      · exact h2
      · rw [Array.getElem?_eq_none h2] at hg; cases hg
    exact .inr ⟨g, cap, cur, hv, hb, (hB.block g hlt).trans hg, rest⟩

theorem Own.nil (w : World) (base : Nat) : Own w base (.slice none 0 0) [] := World.ownsRow_nil w base 5 1

theorem Below.grownBy {w w' : World} (h : Below w.heap.size w w') (row : Option Nat) : w.grownBy w' row := ⟨h.os, h.tape, h.output, h.size, fun k hk _ => h.block k hk⟩

theorem grown_below {w w' : World} {row : Option Nat} {B : Nat} (h : w.grownBy w' row) (hB : B ≤ w.heap.size) (hr : ∀ g, row = some g → B ≤ g) : Below B w w' := (Below.refl B w).grown h hB hr

theorem Src.below {w w' : World} {A : Option Addr} {c : Nat} {l : List Int} (h : Src w A c l) (hB : Below w.heap.size w w') : Src w' A c l := by
  refine ⟨h.1, ?_⟩
  rcases h.2 with h1 | ⟨b, off, h1, h2, h3⟩
  · exact .inl h1
  · exact .inr ⟨b, off, h1, Nat.lt_of_lt_of_le h2 hB.size, fun i hi => by rw [hB.cell (p := ⟨b, off + i, none⟩) h2]; exact h3 i hi⟩

/-- A number's four bytes, the highest first. -/
def be4 (n : Int) : List Int := [n / 16777216, n / 65536 % 256, n / 256 % 256, n % 256]

/-- What a call that lays more behind bytes answers. -/
def Laid (w : World) (base : Nat) (v : Value) (l : List Int) (e : Ending) (w' : World) : Prop := ∃ v', e = .returned v' ∧ Own w' base v' l ∧ w.grownBy w' v.ownBlock ∧ Lies w v v'

theorem Src.lit (w : World) (cs : Array Value) (l : List Int) (h : cs.toList = byt l) : Src (w.alloc (.cells cs 5)) (some ⟨w.heap.size, 0, none⟩) l.length l := by
  refine ⟨fun h => (by cases h), .inr ⟨w.heap.size, 0, rfl, by simp, fun i hi => ?_⟩⟩
  rw [Nat.zero_add, World.cell?_alloc_at _ _ _ _ rfl, ← Array.getElem?_toList, h]
  simp [byt, List.getD, hi]

theorem Laid.mk {w w1 w2 : World} {base : Nat} {v v' : Value} {l : List Int} (hB : Below w.heap.size w w1) (hO : Own w2 base v' l) (hg : w1.grownBy w2 v.ownBlock) (hL : Lies w1 v v') : Laid w base v l (.returned v') w2 := by
  refine ⟨v', rfl, hO, (Below.grownBy hB _).trans hg, ?_⟩
  rcases hL with h | ⟨g, h1, h2⟩
  · exact .inl h
  · exact .inr ⟨g, Nat.le_trans hB.size h1, h2⟩

set_option maxRecDepth 100000 in
set_option maxHeartbeats 1000000 in
theorem layFour_any (v : Value) (n : Int) (base : Nat) (xs : List Int) (w : World) (hn : 0 ≤ n) (hn' : n ≤ 4294967295) (hO : Own w base v xs) (hl : xs.length ≤ 140737488355320) (hbase : base ≤ w.heap.size) :
    Calls Tryd.prog 46 #[v, .int .u32 n] w (Laid w base v (xs ++ be4 n)) := by
  have HO := Lib.hid hO
  clear hO
  go_enter Tryd.func46, Tryd.ntmps46
  have hnew := Src.lit w #[.int .u8 (n / 16777216), .int .u8 (n / 65536 % 256), .int .u8 (n / 256 % 256), .int .u8 (n % 256)] (be4 n) rfl
  have HNW := Lib.hid hnew
  clear hnew
  go_wp2_with (at_builtin; refine wpList_app rfl (.tmp 5) (.tmp 17) 35 35 rfl Tryd.underlying35 Tryd.underlying35 base v xs (be4 n) rfl (HO.out.below ((Below.refl _ _).alloc (Nat.le_refl _) _)) (some ⟨w.heap.size, 0, none⟩) 4 4 rfl rfl HNW.out ?c1 ?c2 ?_)
  case c1 => simp [be4]; omega
  case c2 => simp; omega
  intro v' w1 hO' hg hL
  have HL := Lib.hid (Laid.mk ((Below.refl _ w).alloc (Nat.le_refl _) _) hO' hg hL)
  clear hO' hg hL
  go_wp2
  go_ret
  exact HL.out
end Go.Proofs.YtbdjlnejlkiijaaDoorRRR.Oct
