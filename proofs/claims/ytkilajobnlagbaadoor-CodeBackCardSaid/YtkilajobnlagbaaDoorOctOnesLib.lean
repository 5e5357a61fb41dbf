/-
  Small facts for OctetOnes: one sum laid as a slice of its own, the rows of sums, what stays as it was.
-/
import Derived.Test.YtkilajobnlagbaaDoorOctDig
import Derived.ProofKit
import Derived.Great.BuildSlice
import Derived.Deep.RegionHeld3
import Derived.Deep.AppendLies
namespace Go.Proofs.YtkilajobnlagbaaDoor.Oct
open Go.ChangeShapes Go.WideShapes Go.ChangeAt Go.RowKit
set_option linter.unusedVariables false

theorem be4s_one (x : Int) : be4s [x] = be4 x := by simp [be4s]
theorem be8s_one (x : Int) : be8s [x] = be8 x := by simp [be8s]
theorem be8s_snoc (ns : List Int) (k : Nat) (x : Int) (hk : k < ns.length) (hx : ns.getD k 0 = x) : be8s (ns.take k) ++ be8 x = be8s (ns.take (k + 1)) := by
  have e : ns[k] = x := by rw [← hx]; simp [List.getD, hk]
  rw [List.take_succ_eq_append_getElem hk, e]
  simp [be8s]
theorem take_snoc (ns : List Int) (k : Nat) (x : Int) (hk : k < ns.length) (hx : ns.getD k 0 = x) : ns.take k ++ [x] = ns.take (k + 1) := by
  have e : ns[k] = x := by rw [← hx]; simp [List.getD, hk]
  rw [List.take_succ_eq_append_getElem hk, e]

theorem Src.one (w : World) (x : Int) : Src (w.alloc (.cells #[.int .u8 x] 5)) (some ⟨w.heap.size, 0, none⟩) 1 [x] := Src.lit w #[.int .u8 x] [x] rfl
theorem Rd.of_src {w : World} {A : Option Addr} {c : Nat} {l : List Int} (h : Src w A c l) : Rd .u8 w A l := h.2

theorem fold_get : ∀ (l : List Value) (p : Nat) (cs : Array Value), p + l.length ≤ cs.size →
    ((l.zipIdx p).foldl (fun (cs : Array Value) (cj : Value × Nat) => cs.setIfInBounds (0 + cj.2) cj.1) cs).size = cs.size ∧
    ∀ j, ((l.zipIdx p).foldl (fun (cs : Array Value) (cj : Value × Nat) => cs.setIfInBounds (0 + cj.2) cj.1) cs)[j]? = if p ≤ j ∧ j < p + l.length then l[j - p]? else cs[j]?
  | [], p, cs, _ => by
    refine ⟨rfl, fun j => ?_⟩
    rw [if_neg (by simp)]
    rfl
  | a :: l, p, cs, h => by
    have hl : p + 1 + l.length ≤ (cs.setIfInBounds (0 + p) a).size := by simp at h ⊢; omega
    obtain ⟨h1, h2⟩ := fold_get l (p + 1) (cs.setIfInBounds (0 + p) a) hl
    rw [List.zipIdx_cons, List.foldl_cons]
    refine ⟨by rw [h1]; simp, fun j => ?_⟩
    rw [h2 j]
    by_cases hj : j = p
    · subst hj
      rw [if_neg (by omega), if_pos (by simp)]
      have : j < cs.size := by simp at h; omega
      simp [this]
    · by_cases hj2 : p + 1 ≤ j ∧ j < p + 1 + l.length
      · rw [if_pos hj2, if_pos (by simp; omega)]
        have : j - p = (j - (p + 1)) + 1 := by omega
        rw [this]
        simp
      · rw [if_neg hj2, if_neg (by simp; omega)]
        rw [Array.getElem?_setIfInBounds_ne (by omega)]

theorem fold_all (l : List Value) (cs : Array Value) (h : cs.size = l.length) : (l.toArray.zipIdx.foldl (fun (cs : Array Value) (cj : Value × Nat) => cs.setIfInBounds (0 + cj.2) cj.1) cs) = l.toArray := by
  rw [← Array.foldl_toList]
  have e : l.toArray.zipIdx.toList = l.zipIdx 0 := by simp
  rw [e]
  obtain ⟨h1, h2⟩ := fold_get l 0 cs (by omega)
  apply Array.ext_getElem?
  intro j
  rw [h2 j]
  by_cases hj : j < l.length
  · rw [if_pos (by omega)]
    simp
  · rw [if_neg (by omega), Array.getElem?_eq_none (by omega), Array.getElem?_eq_none (by rw [List.size_toArray]; omega)]

theorem digs_one (x : List Int) : digs [x] = x := by simp [digs]

/-- The two rows lie apart. -/
def Apart (t u : Value) : Prop := ∀ g, t.ownBlock = some g → u.ownBlock ≠ some g

theorem up_alloc {W W' : World} (h : Below W.heap.size W W') (o : Obj) : Below W.heap.size W (W'.alloc o) := h.alloc h.size o
theorem zeros_cells : (Value.agg zeros).cells.size = 32 := by kernel_rfl


theorem rangeAt_grown {W W' : World} {b o : Nat} {cs : List Value} {r : Option Nat} (h : W.rangeAt b o cs) (hg : W.grownBy W' r) (hb : b < W.heap.size) (hne : some b ≠ r) : W'.rangeAt b o cs := fun j v hv => by
  rw [hg.cell_far ⟨b, o + j, none⟩ hb hne]
  exact h j v hv

theorem digs_get : ∀ (ds : List (List Int)), (∀ d ∈ ds, d.length = 32) → ∀ (i j : Nat), i < ds.length → j < 32 → (byt (digs ds))[i * 32 + j]? = (byt (ds.getD i []))[j]?
  | [], _, i, _, hi, _ => by simp at hi
  | d :: r, h, i, j, hi, hj => by
    have hd : (byt d).length = 32 := by simp [byt, h d (by simp)]
    have e : byt (digs (d :: r)) = byt d ++ byt (digs r) := by simp [digs, byt]
    rw [e]
    cases i with
    | zero =>
      rw [List.getElem?_append_left (by omega)]
      simp
    | succ i =>
      rw [List.getElem?_append_right (by omega), hd, show (i + 1) * 32 + j - 32 = i * 32 + j by omega, digs_get r (fun d hd => h d (by simp [hd])) i j (by simpa using hi) hj]
      simp

end Go.Proofs.YtkilajobnlagbaaDoor.Oct
