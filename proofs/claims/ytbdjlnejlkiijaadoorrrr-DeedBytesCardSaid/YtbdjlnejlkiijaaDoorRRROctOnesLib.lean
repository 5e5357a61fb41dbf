/-
  Small facts for OctetOnes: one sum laid as a slice of its own, the rows of sums, what stays as it was.
-/
import Derived.Test.YtbdjlnejlkiijaaDoorRRROctDig
import Derived.ProofKit
import Derived.Great.BuildSlice
import Derived.Deep.RegionHeld3
import Derived.Deep.AppendLies
namespace Go.Proofs.YtbdjlnejlkiijaaDoorRRR.Oct
open Go.ChangeShapes Go.WideShapes Go.ChangeAt Go.RowKit
set_option linter.unusedVariables false

theorem Laid.keep {w wr w' : World} {base : Nat} {t : Value} {xs : List Int} (hw : Below base w wr) (hO : Own wr base t xs) (hb : base ≤ wr.heap.size) (h : wr.grownBy w' t.ownBlock) : Below base w w' :=
  hw.trans (grown_below h hb fun g hg => (World.ownsRow.lt hO g hg).1)

theorem be4s_one (x : Int) : be4s [x] = be4 x := by simp [be4s]
theorem be8s_one (x : Int) : be8s [x] = be8 x := by simp [be8s]
theorem be8s_snoc (ns : List Int) (k : Nat) (x : Int) (hk : k < ns.length) (hx : ns.getD k 0 = x) : be8s (ns.take k) ++ be8 x = be8s (ns.take (k + 1)) := by
  have e : ns[k] = x := by rw [← hx]; simp [List.getD, hk]
  rw [List.take_succ_eq_append_getElem hk, e]
  simp [be8s]
theorem take_snoc (ns : List Int) (k : Nat) (x : Int) (hk : k < ns.length) (hx : ns.getD k 0 = x) : ns.take k ++ [x] = ns.take (k + 1) := by
  have e : ns[k] = x := by rw [← hx]; simp [List.getD, hk]
  rw [List.take_succ_eq_append_getElem hk, e]

theorem Src.one (w : World) (x : Int) : Src (w.alloc (.cells #[.int .u8 x] 5)) (some ⟨w.heap.size, 0, none⟩) 1 [x] := Src.lit w #[.int .u8 x] [x] rfl
theorem Rd.of_src {w : World} {A : Option Addr} {c : Nat} {l : List Int} (h : Src w A c l) : Rd .u8 w A l := h.2

theorem fold_get : ∀ (l : List Value) (p : Nat) (cs : Array Value), p + l.length ≤ cs.size →
    ((l.zipIdx p).foldl (fun (cs : Array Value) (cj : Value × Nat) => cs.setIfInBounds (0 + cj.2) cj.1) cs).size = cs.size ∧
    ∀ j, ((l.zipIdx p).foldl (fun (cs : Array Value) (cj : Value × Nat) => cs.setIfInBounds (0 + cj.2) cj.1) cs)[j]? = if p ≤ j ∧ j < p + l.length then l[j - p]? else cs[j]?
  | [], p, cs, _ => by
    refine ⟨rfl, fun j => ?_⟩
    rw [if_neg (by simp)]
    rfl
  | a :: l, p, cs, h => by
    have hl : p + 1 + l.length ≤ (cs.setIfInBounds (0 + p) a).size := by simp at h ⊢; omega
    obtain ⟨h1, h2⟩ := fold_get l (p + 1) (cs.setIfInBounds (0 + p) a) hl
    rw [List.zipIdx_cons, List.foldl_cons]
    refine ⟨by rw [h1]; simp, fun j => ?_⟩
    rw [h2 j]
    by_cases hj : j = p
    · subst hj
      rw [if_neg (by omega), if_pos (by simp)]
      have : j < cs.size := by simp at h; omega
      simp [this]
    · by_cases hj2 : p + 1 ≤ j ∧ j < p + 1 + l.length
      · rw [if_pos hj2, if_pos (by simp; omega)]
        have : j - p = (j - (p + 1)) + 1 := by omega
        rw [this]
        simp
      · rw [if_neg hj2, if_neg (by simp; omega)]
        rw [Array.getElem?_setIfInBounds_ne (by omega)]

theorem fold_all (l : List Value) (cs : Array Value) (h : cs.size = l.length) : (l.toArray.zipIdx.foldl (fun (cs : Array Value) (cj : Value × Nat) => cs.setIfInBounds (0 + cj.2) cj.1) cs) = l.toArray := by
  rw [← Array.foldl_toList]
  have e : l.toArray.zipIdx.toList = l.zipIdx 0 := by simp
  rw [e]
  obtain ⟨h1, h2⟩ := fold_get l 0 cs (by omega)
  apply Array.ext_getElem?
  intro j
  rw [h2 j]
  by_cases hj : j < l.length
  · rw [if_pos (by omega)]
    simp
  · rw [if_neg (by omega), Array.getElem?_eq_none (by omega), Array.getElem?_eq_none (by rw [List.size_toArray]; omega)]

set_option maxRecDepth 100000 in
theorem build_sum (x : List Int) (hx : (byt x).length = 32) (w : World) : (Instr.buildSlice 68 1 #[(0, .agg (byt x).toArray)]).run Tryd.prog w = .ok (.slice (some ⟨w.heap.size, 0, none⟩) 1 1) (w.alloc (.cells (byt x).toArray 52)) := by
  obtain ⟨i0, hi, hz0, hz1, hz2⟩ := info_parts (show (Tryd.prog.info? 52).map (fun i => (i.zero, i.size, i.bytes)) = some (some (.agg zeros), 32, 32) by kernel_rfl)
  refine run_buildSlice w 68 52 1 _ (byt x).toArray i0 (.agg zeros) Tryd.underlying68 hi hz0 (by rw [hz1]; decide) (by rw [hz1]; decide) ?_
  rw [hz1]
  show Instr.fill _ _ [(0, .agg (byt x).toArray)] = _
  unfold Instr.fill
  simp only [Value.cells, List.size_toArray, hx, Array.size_map, Array.size_range]
  rw [if_neg (by decide)]
  simp only [Nat.zero_mul]
  unfold Instr.fill
  congr 1
  exact fold_all (byt x) _ (by simp [hx])

theorem digs_one (x : List Int) : digs [x] = x := by simp [digs]

/-- One sum, out of a block of its own. -/
theorem outsum_one (v : Value) (g base : Nat) (xs x : List Int) (w : World) (hO : Own w base v xs) (hg : w.heap[g]? = some (.cells (byt x).toArray 52 (0, 0))) (hx : x.length = 32) (hl : xs.length ≤ 1000000) (hbase : base ≤ w.heap.size) :
    Calls Tryd.prog 47 #[v, .slice (some ⟨g, 0, none⟩) 1 1] w (Laid w base v (xs ++ x)) := by
  have hlt : g < w.heap.size := by
    rcases Nat.lt_or_ge g w.heap.size with h2 | h2
    · exact h2
    · rw [Array.getElem?_eq_none h2] at hg; cases hg
  have h := outsum_any v (some ⟨g, 0, none⟩) 1 base xs [x] w hO ⟨.inr ⟨g, 0, rfl, hlt, fun i hi => by
    have : i = 0 := by simpa using hi
    subst this
    intro j u hu
    have := World.news_of_block hg j u (by simpa using hu)
    rw [Go.WideShapes.add_plain] at this
    simpa using this⟩, by simpa using hx⟩ (by simp; omega) hbase
  rw [digs_one] at h
  exact h

/-- The two rows lie apart. -/
def Apart (t u : Value) : Prop := ∀ g, t.ownBlock = some g → u.ownBlock ≠ some g

theorem up_alloc {W W' : World} (h : Below W.heap.size W W') (o : Obj) : Below W.heap.size W (W'.alloc o) := h.alloc h.size o
theorem own42_up {W W' : World} {base n : Nat} {u : Value} {cs : List Value} (h : W.ownsRow base 52 32 u n cs) (hB : Below W.heap.size W W') : W'.ownsRow base 52 32 u n cs := by
  refine ⟨h.1, ?_⟩
  rcases h.2 with h1 | ⟨g, cap, cur, hv, hb, hg, rest⟩
  · exact .inl h1
  · have hlt : g < W.heap.size := by
      rcases Nat.lt_or_ge g W.heap.size with h2 | h2
      · exact h2
      · rw [Array.getElem?_eq_none h2] at hg; cases hg
    exact .inr ⟨g, cap, cur, hv, hb, (hB.block g hlt).trans hg, rest⟩
theorem sum_info : (Tryd.prog.info? 52).map (fun i => (i.zero, i.size, i.bytes)) = some (some (.agg zeros), 32, 32) := by kernel_rfl
theorem info29 : (Tryd.prog.info? 28).map (·.size) = some 32 := by kernel_rfl
theorem zeros_cells : (Value.agg zeros).cells.size = 32 := by kernel_rfl


/-- A slice of one sum is laid, at a step of a region that draws its order. -/
theorem step_build {ops : Array Oper} {o : Oper} {a : Act} {w : World} {K : Act → World → Prop} {Q : Exit → Act → World → Prop} {E : Prop} (s : Nat) (x : List Int) (hgd : o.guard = none) (ho : o.op = .buildSlice 68 1 #[(0, .tmp s)]) (ha : a.eval (.tmp s) = .agg (byt x).toArray) (hx : (byt x).length = 32)
    (h : K (a.put o.dst (.slice (some ⟨w.heap.size, 0, none⟩) 1 1)) (w.alloc (.cells (byt x).toArray 52))) :
    if Region.wanted o (yielded ops a.tmps) = true then Oper.wp Tryd.prog o a w K Q else E := by
  have hw : Region.wanted o (yielded ops a.tmps) = true := by simp [Region.wanted, hgd]
  rw [if_pos hw]
  have hb := build_sum x hx w
  have e : (execOp a.eval o).run Tryd.prog w = .ok (.value (.slice (some ⟨w.heap.size, 0, none⟩) 1 1)) (w.alloc (.cells (byt x).toArray 52)) := by
    unfold execOp
    simp only [ho, List.map_toArray, List.map_cons, List.map_nil, ha, Sem.run_bind, hb, Result.andThen_ok, Sem.run_pure]
  unfold Oper.wp
  rw [e]
  exact h

/-- A call with two arguments, at a step of a region that draws its order. -/
theorem step_call2 {ops : Array Oper} {o : Oper} {a : Act} {w : World} {K : Act → World → Prop} {Q : Exit → Act → World → Prop} {E : Prop} (s1 s2 t1 t2 : Nat) (v1 v2 : Value) (hgd : o.guard = none)
    (ho : o.op = .call { callee := .value (.func 47), args := #[.tmp s1, .tmp s2], argTypes := #[t1, t2] }) (h1 : a.eval (.tmp s1) = v1) (h2 : a.eval (.tmp s2) = v2) {R : Ending → World → Prop} (hc : Calls Tryd.prog 47 #[v1, v2] w R)
    (hR : ∀ e w', R e w' → ∃ v, e = .returned v ∧ K (a.put o.dst v) w') :
    if Region.wanted o (yielded ops a.tmps) = true then Oper.wp Tryd.prog o a w K Q else E := by
  have hw : Region.wanted o (yielded ops a.tmps) = true := by simp [Region.wanted, hgd]
  rw [if_pos hw]
  have e : (execOp a.eval o).run Tryd.prog w = .ok (.enter 47 #[v1, v2]) w := by
    unfold execOp
    simp only [ho]
    go_simp
    exact ⟨by simpa [Act.eval] using h1, by simpa [Act.eval] using h2⟩
  unfold Oper.wp
  rw [e, Oper.upon_enter]
  refine hc.mono ?_
  intro e w' hr
  obtain ⟨v, rfl, hv⟩ := hR e w' hr
  exact hv

/-- What is held through the fourth loop's region: the bytes so far, the row of sums so far, apart; the sum at hand; nothing older is written. -/
structure Inv (w W : World) (base bx : Nat) (x : List Int) (t u : Value) (X : List Int) (n : Nat) (Y : List Value) : Prop where
  own : Own W base t X
  row : W.ownsRow base 52 32 u n Y
  ap : Apart t u
  bel : Below base w W
  rg : W.rangeAt bx 0 (byt x)
  tb : t.ownBlock ≠ some bx
  ub : u.ownBlock ≠ some bx
  lt : bx < W.heap.size
  le : base ≤ W.heap.size

/-- A block of one sum that is neither row's. -/
structure Blk (W : World) (x : List Int) (t u : Value) (g : Nat) : Prop where
  holds : W.heap[g]? = some (.cells (byt x).toArray 52 (0, 0))
  nt : t.ownBlock ≠ some g
  nu : u.ownBlock ≠ some g

theorem Blk.lt {W : World} {x : List Int} {t u : Value} {g : Nat} (h : Blk W x t u g) : g < W.heap.size := by
  rcases Nat.lt_or_ge g W.heap.size with h2 | h2
  · exact h2
  · have := h.holds
    rw [Array.getElem?_eq_none h2] at this
    cases this

theorem rangeAt_grown {W W' : World} {b o : Nat} {cs : List Value} {r : Option Nat} (h : W.rangeAt b o cs) (hg : W.grownBy W' r) (hb : b < W.heap.size) (hne : some b ≠ r) : W'.rangeAt b o cs := fun j v hv => by
  rw [hg.cell_far ⟨b, o + j, none⟩ hb hne]
  exact h j v hv

theorem Inv.alloc {w W : World} {base bx : Nat} {x : List Int} {t u : Value} {X : List Int} {n : Nat} {Y : List Value} (h : Inv w W base bx x t u X n Y) (o : Obj) : Inv w (W.alloc o) base bx x t u X n Y where
  own := World.ownsRow.alloc h.own o
  row := h.row.alloc o
  ap := h.ap
  bel := h.bel.alloc h.le o
  rg := World.rangeAt_alloc h.rg o
  tb := h.tb
  ub := h.ub
  lt := by have := h.lt; simp; omega
  le := by have := h.le; simp; omega

theorem Inv.blk {w W : World} {base bx : Nat} {x : List Int} {t u : Value} {X : List Int} {n : Nat} {Y : List Value} (h : Inv w W base bx x t u X n Y) : Blk (W.alloc (.cells (byt x).toArray 52)) x t u W.heap.size where
  holds := heap_alloc_last W _
  nt := fun hg => absurd (World.ownsRow.lt h.own _ hg).2 (Nat.lt_irrefl _)
  nu := fun hg => absurd (World.ownsRow.lt h.row _ hg).2 (Nat.lt_irrefl _)

theorem Blk.alloc {W : World} {x : List Int} {t u : Value} {g : Nat} (h : Blk W x t u g) (o : Obj) : Blk (W.alloc o) x t u g where
  holds := by
    have := (Below.refl W.heap.size W).alloc (Nat.le_refl _) o
    rw [this.block g h.lt]
    exact h.holds
  nt := h.nt
  nu := h.nu

theorem Inv.sum {w W W' : World} {base bx : Nat} {x : List Int} {t u v' : Value} {X X' : List Int} {n : Nat} {Y : List Value} (h : Inv w W base bx x t u X n Y) (hO : Own W' base v' X') (hg : W.grownBy W' t.ownBlock) (hL : Lies W t v') : Inv w W' base bx x v' u X' n Y where
  own := hO
  row := h.row.kept hg (by
    rcases hu : u.ownBlock with _ | g
    · exact .inl rfl
    · refine .inr fun he => ?_
      exact h.ap g he.symm hu)
  ap := by
    intro g hv hu
    rcases hL with h1 | ⟨g', h1, h2⟩
    · rw [h1] at hv
      exact h.ap g hv hu
    · rw [h2] at hv
      have := (World.ownsRow.lt h.row g hu).2
      have e : g' = g := by simpa using hv
      omega
  bel := Laid.keep h.bel h.own h.le hg
  rg := rangeAt_grown h.rg hg h.lt (fun he => h.tb he.symm)
  tb := by
    intro hv
    rcases hL with h1 | ⟨g', h1, h2⟩
    · rw [h1] at hv
      exact h.tb hv
    · rw [h2] at hv
      have := h.lt
      have e : g' = bx := by simpa using hv
      omega
  ub := h.ub
  lt := Nat.lt_of_lt_of_le h.lt hg.size
  le := Nat.le_trans h.le hg.size

theorem Blk.sum {W W' : World} {x : List Int} {t u v' : Value} {g : Nat} (h : Blk W x t u g) (hg : W.grownBy W' t.ownBlock) (hL : Lies W t v') : Blk W' x v' u g where
  holds := by
    rw [hg.block g h.lt (fun he => h.nt he.symm)]
    exact h.holds
  nt := by
    intro hv
    rcases hL with h1 | ⟨g', h1, h2⟩
    · rw [h1] at hv
      exact h.nt hv
    · rw [h2] at hv
      have := h.lt
      have e : g' = g := by simpa using hv
      omega
  nu := h.nu

/-- Behind the append: what the loop's relation asks. -/
theorem Inv.app {w W W' : World} {base bx : Nat} {x : List Int} {t u : Value} {X : List Int} {n cap g : Nat} {Y Y' : List Value} (h : Inv w W base bx x t u X n Y) (hO : W'.ownsRow base 52 32 (.slice (some ⟨g, 0, none⟩) (n + 1) cap) (n + 1) Y') (hg : W.grownBy W' u.ownBlock) (hL : u.ownBlock = some g ∨ g = W.heap.size) :
    Inv w W' base bx x t (.slice (some ⟨g, 0, none⟩) (n + 1) cap) X (n + 1) Y' where
  own := World.ownsRow.kept h.own hg (by
    rcases ht : t.ownBlock with _ | g
    · exact .inl rfl
    · refine .inr fun he => ?_
      exact h.ap g ht he.symm)
  row := hO
  ap := by
    intro g' hv hu
    have e : g = g' := by simpa [Value.ownBlock] using hu
    subst e
    rcases hL with h1 | h1
    · exact h.ap g hv h1
    · have := (World.ownsRow.lt h.own g hv).2
      omega
  bel := h.bel.trans (grown_below hg h.le fun g hg => (World.ownsRow.lt h.row g hg).1)
  rg := rangeAt_grown h.rg hg h.lt (fun he => h.ub he.symm)
  tb := h.tb
  ub := by
    intro hu
    have e : g = bx := by simpa [Value.ownBlock] using hu
    have := h.lt
    rcases hL with h1 | h1
    · rw [e] at h1
      exact h.ub h1
    · omega
  lt := Nat.lt_of_lt_of_le h.lt hg.size
  le := Nat.le_trans h.le hg.size

theorem digs_get : ∀ (ds : List (List Int)), (∀ d ∈ ds, d.length = 32) → ∀ (i j : Nat), i < ds.length → j < 32 → (byt (digs ds))[i * 32 + j]? = (byt (ds.getD i []))[j]?
  | [], _, i, _, hi, _ => by simp at hi
  | d :: r, h, i, j, hi, hj => by
    have hd : (byt d).length = 32 := by simp [byt, h d (by simp)]
    have e : byt (digs (d :: r)) = byt d ++ byt (digs r) := by simp [digs, byt]
    rw [e]
    cases i with
    | zero =>
      rw [List.getElem?_append_left (by omega)]
      simp
    | succ i =>
      rw [List.getElem?_append_right (by omega), hd, show (i + 1) * 32 + j - 32 = i * 32 + j by omega, digs_get r (fun d hd => h d (by simp [hd])) i j (by simpa using hi) hj]
      simp

/-- A row of sums that the call itself made, read as sums. -/
theorem digs_of_row {W : World} {base n : Nat} {u : Value} (ds : List (List Int)) (h : W.ownsRow base 52 32 u n (byt (digs ds))) (hd : ∀ d ∈ ds, d.length = 32) (hn : ds.length = n) : ∃ A c, u = .slice A n c ∧ Digs W A ds := by
  rcases h.2 with ⟨rfl, h0⟩ | ⟨g, cap, cur, rfl, hb, hg, h1, h2, h3, h4⟩
  · refine ⟨none, 0, by rw [h0], .inl (List.eq_nil_of_length_eq_zero (by omega)), hd⟩
  · have hlt : g < W.heap.size := by
      rcases Nat.lt_or_ge g W.heap.size with h2 | h2
      · exact h2
      · rw [Array.getElem?_eq_none h2] at hg; cases hg
    refine ⟨some ⟨g, 0, none⟩, cap, rfl, .inr ⟨g, 0, rfl, hlt, fun i hi j v hv => ?_⟩, hd⟩
    have hj : j < 32 := by
      have h5 : (ds.getD i []).length = 32 := hd _ (dig_mem ds i _ hi rfl)
      rcases Nat.lt_or_ge j 32 with h6 | h6
      · exact h6
      · rw [List.getElem?_eq_none (by unfold byt; rw [List.length_map, h5]; exact h6)] at hv
        cases hv
    have h7 := h.cellAt (i * 32 + j) (by omega)
    rw [Nat.zero_add, h7, digs_get ds hd i j hi hj]
    exact hv
end Go.Proofs.YtbdjlnejlkiijaaDoorRRR.Oct
