/-
  What a mill is that has taken in some bytes; what it is behind some more; slices of bytes that are read.
-/
import Derived.Test.YtbdjlnejlkiijaaDoorRRRGrind
import Derived.Deep.RegionLaw
namespace Go.Proofs.YtbdjlnejlkiijaaDoorRRR
open Go.RowKit
set_option linter.unusedVariables false

/-- A slice of bytes that is read, of no more cells than its capacity, outside block b. -/
structure Src (w : World) (b : Nat) (A : Option Addr) (c : Nat) (l : List Nat) : Prop where
  le : l.length ≤ c
  at_ : l = [] ∨ ∃ g off, A = some ⟨g, off, none⟩ ∧ g < w.heap.size ∧ g ≠ b ∧ ∀ i, i < l.length → w.cell? ⟨g, off + i, none⟩ = some (.int .u8 ((l.getD i 0 : Nat) : Int))
  lt : ∀ x ∈ l, x < 256

theorem Src.grown {w w' : World} {b : Nat} {A : Option Addr} {c : Nat} {l : List Nat} (h : Src w b A c l) (hg : w.grownBy w' (some b)) : Src w' b A c l := by
  refine ⟨h.le, ?_, h.lt⟩
  rcases h.at_ with h1 | ⟨g, off, h1, h2, h3, h4⟩
  · exact .inl h1
  · refine .inr ⟨g, off, h1, Nat.lt_of_lt_of_le h2 hg.size, h3, fun i hi => ?_⟩
    rw [← h4 i hi]
    exact World.cell?_of_block (hg.block g h2 (fun e => h3 (by injection e)))

theorem Src.below {w w' : World} {b : Nat} {A : Option Addr} {c : Nat} {l : List Nat} (h : Src w b A c l) (hB : Below w.heap.size w w') : Src w' b A c l := by
  refine ⟨h.le, ?_, h.lt⟩
  rcases h.at_ with h1 | ⟨g, off, h1, h2, h3, h4⟩
  · exact .inl h1
  · refine .inr ⟨g, off, h1, Nat.lt_of_lt_of_le h2 hB.size, h3, fun i hi => ?_⟩
    rw [← h4 i hi]
    exact hB.cell (p := ⟨g, off + i, none⟩) h2

theorem Src.blk {w : World} {b g : Nat} {t : TypeId} {l : List Nat} {rest : List Value} (h : Blk w g t (w8 l ++ rest)) (hb : g ≠ b) (hl : ∀ x ∈ l, x < 256) (c : Nat) (hc : l.length ≤ c) : Src w b (some ⟨g, 0, none⟩) c l := by
  refine ⟨hc, .inr ⟨g, 0, rfl, h.lt, hb, fun i hi => ?_⟩, hl⟩
  rw [Nat.zero_add, h.cell, List.getElem?_append_left (by rw [w8_length]; exact hi), w8_get l i hi]

/-- A mill into which just these bytes came. -/
structure Rep (w : World) (b : Nat) (l bs : List Nat) : Prop where
  blk : Blk w b 143 (millCells (wordsAt l (l.length / 64)) bs l.length)
  len : bs.length = 64
  lt : ∀ x ∈ bs, x < 256
  rest : bs.take (l.length % 64) = l.drop (64 * (l.length / 64))

theorem splice_mill (ws bs : List Nat) (n r : Nat) (ch : List Nat) (h8 : ws.length = 8) (hb : bs.length = 64) (hr : r + ch.length ≤ 64) : splice (millCells ws bs n) (8 + r) (w8 ch) = millCells ws (splice bs r ch) n := by
  unfold splice millCells
  rw [w8_length]
  have e1 : (w32 ws ++ (w8 bs ++ [Value.int .u64 (n : Int)])).take (8 + r) = w32 ws ++ w8 (bs.take r) := by
    rw [show 8 + r = (w32 ws).length + r by rw [w32_length, h8], List.take_length_add_append, List.take_append_of_le_length (by rw [w8_length]; omega)]
    simp [w8, List.map_take]
  have e2 : (w32 ws ++ (w8 bs ++ [Value.int .u64 (n : Int)])).drop (8 + r + ch.length) = w8 (bs.drop (r + ch.length)) ++ [Value.int .u64 (n : Int)] := by
    rw [show 8 + r + ch.length = (w32 ws).length + (r + ch.length) by rw [w32_length, h8]; omega, List.drop_length_add_append, List.drop_append_of_le_length (by rw [w8_length]; omega)]
    simp [w8, List.map_drop]
  rw [e1, e2]
  simp [w8]

theorem splice_length' (bs : List Nat) (r : Nat) (ch : List Nat) (hb : bs.length = 64) (hr : r + ch.length ≤ 64) : (splice bs r ch).length = 64 := by
  rw [length_splice _ _ _ (by omega), hb]

theorem splice_lt (bs : List Nat) (r : Nat) (ch : List Nat) (h1 : ∀ x ∈ bs, x < 256) (h2 : ∀ x ∈ ch, x < 256) : ∀ x ∈ splice bs r ch, x < 256 := by
  intro x hx
  simp only [splice, List.mem_append] at hx
  rcases hx with hx | hx | hx
  · exact h1 x (List.mem_of_mem_take hx)
  · exact h2 x hx
  · exact h1 x (List.mem_of_mem_drop hx)

theorem splice_take (l bs ch : List Nat) (hb : bs.length = 64) (hr : l.length % 64 + ch.length ≤ 64) (h : bs.take (l.length % 64) = l.drop (64 * (l.length / 64))) :
    (splice bs (l.length % 64) ch).take (l.length % 64 + ch.length) = (l ++ ch).drop (64 * (l.length / 64)) := by
  unfold splice
  rw [h, List.drop_append_of_le_length (by omega), ← List.append_assoc, List.take_append_of_le_length (by simp; omega), List.take_of_length_le (by simp; omega)]

/-- A block that isn't full yet. -/
theorem Rep.some_ {w : World} {b : Nat} {l bs ch : List Nat} (h : Rep w b l bs) (hc : ∀ x ∈ ch, x < 256) (hr : l.length % 64 + ch.length < 64) {w' : World} (hB : Blk w' b 143 (millCells (wordsAt l (l.length / 64)) (splice bs (l.length % 64) ch) (l.length + ch.length))) : Rep w' b (l ++ ch) (splice bs (l.length % 64) ch) := by
  have e : (l.length + ch.length) / 64 = l.length / 64 := by omega
  have e2 : (l.length + ch.length) % 64 = l.length % 64 + ch.length := by omega
  refine ⟨?_, splice_length' _ _ _ h.len (by omega), splice_lt _ _ _ h.lt hc, ?_⟩
  · rw [List.length_append, e, wordsAt_append _ _ _ (by omega)]
    exact hB
  · rw [List.length_append, e, e2]
    exact splice_take l bs ch h.len (by omega) h.rest

/-- A full one. -/
theorem Rep.full {w : World} {b : Nat} {l bs ch : List Nat} (h : Rep w b l bs) (hc : ∀ x ∈ ch, x < 256) (hr : l.length % 64 + ch.length = 64) {w' : World} (hB : Blk w' b 143 (millCells (comp (wordsAt l (l.length / 64)) (splice bs (l.length % 64) ch)) (splice bs (l.length % 64) ch) (l.length + ch.length))) : Rep w' b (l ++ ch) (splice bs (l.length % 64) ch) := by
  have e : (l.length + ch.length) / 64 = l.length / 64 + 1 := by omega
  have e2 : (l.length + ch.length) % 64 = 0 := by omega
  have e3 : splice bs (l.length % 64) ch = ((l ++ ch).drop (64 * (l.length / 64))).take 64 := by
    have h64 := splice_length' bs (l.length % 64) ch h.len (by omega)
    rw [← splice_take l bs ch h.len (by omega) h.rest, hr, List.take_take, Nat.min_self, List.take_of_length_le (by omega)]
  refine ⟨?_, splice_length' _ _ _ h.len (by omega), splice_lt _ _ _ h.lt hc, ?_⟩
  · rw [List.length_append, e, wordsAt, wordsAt_append _ _ _ (by omega), ← e3]
    exact hB
  · rw [List.length_append, e, e2, List.take_zero, List.drop_eq_nil_of_le (by simp; omega)]

/-- copy into a block that is known whole, at a step of a region that draws its order. -/
theorem step_copy_at {P : Program} {ops : Array Oper} {o : Oper} {a : Act} {w : World} {K : Act → World → Prop} {Q : Exit → Act → World → Prop} {E : Prop} (hgd : o.guard = none) (d s : Operand) (dT sT : TypeId)
    (ho : o.op = .call { callee := .builtin .copy, args := #[d, s], argTypes := #[dT, sT] }) (elem : TypeId) (hu : P.underlying dT = some (.slice elem)) (hsz : (P.info? elem).map (·.size) = some 1)
    (g off dLen dCap : Nat) (ad : Addr) (sLen sCap : Nat) (hd : a.eval d = .slice (some ⟨g, off, none⟩) dLen dCap) (hs : a.eval s = .slice (some ad) sLen sCap)
    (cur : List Value) (t : TypeId) (hg : Blk w g t cur) (cs : List Value) (n : Nat) (hcs : cs.length = n) (hn : n = Nat.min sLen dLen)
    (hsrc : ∀ j v, cs[j]? = some v → w.cell? (ad.add j) = some v) (hfit : off + n ≤ cur.length) (h1 : ∀ v ∈ cs, v.oneCell' = true)
    (h : ∀ w', Hid (Blk w' g t (splice cur off cs)) → Hid (w.grownBy w' (some g)) → K (a.put o.dst (.int .i64 (n : Int))) w') :
    if Region.wanted o (yielded ops a.tmps) = true then Oper.wp P o a w K Q else E := by
  have hw : Region.wanted o (yielded ops a.tmps) = true := by simp [Region.wanted, hgd]
  rw [if_pos hw]
  subst hcs
  have hrun := run_copy_row (P := P) w dT sT o.type elem g off dLen dCap ad sLen sCap cur.toArray t cs hu hsz hg hn hsrc (by simpa using hfit) h1
  have h2 := h (w.setRow g (splice cur off cs).toArray) (Lib.hid (hg.setRow _)) (Lib.hid (only_setRow (only_refl w _) _))
  unfold Oper.wp
  simp [execOp, ho, resolve, invoke, builtin, hd, hs, hrun, Result.andThen]
  exact (by simpa [splice] using h2 : K (a.put o.dst (.int .i64 (cs.length : Int))) (w.setRow g (List.take off cur ++ (cs ++ List.drop (off + cs.length) cur)).toArray))

theorem info5 : (Tryd.prog.info? 5).map (·.size) = some 1 := by kernel_rfl
end Go.Proofs.YtbdjlnejlkiijaaDoorRRR
