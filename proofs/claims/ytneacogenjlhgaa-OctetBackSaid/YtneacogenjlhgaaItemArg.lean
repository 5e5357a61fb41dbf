/-
  Things that came in, read off the argument.
-/
import Derived.Test.YtneacogenjlhgaaFits
import Derived.Test.YtneacogenjlhgaaOnesArg
namespace Go.Proofs.Ytneacogenjlhgaa
open Go.ChangeShapes Go.WideShapes Go.ChangeAt Go.RowKit Go.Deep
set_option linter.unusedVariables false

theorem c3 : Try.prog.cellsOf 3 = 1 := by kernel_rfl
theorem c5 : Try.prog.cellsOf 5 = 1 := by kernel_rfl
theorem c26 : Try.prog.cellsOf 26 = 1 := by kernel_rfl
theorem c28 : Try.prog.cellsOf 28 = 1 := by kernel_rfl
theorem c29 : Try.prog.cellsOf 29 = 32 := by kernel_rfl
theorem c31 : Try.prog.cellsOf 31 = 36 := by kernel_rfl

theorem bytes_row {H : Type} {enc : TypeId × Value → H} {W : World} {base fuel : Nat} {spare : Nat → Bool} {held : Bool} {cs : List Value} {x : DataW H × List MemPlace} (h : DataW.trod enc Try.prog W base spare held fuel 29 cs = some x) : ∃ ds : List Int, cs = byt ds ∧ ds.length = 32 := by
  obtain ⟨xs, m', _, _, hlen, hxs, hel⟩ := DataW.trod_array Try.underlying29 h
  rw [c29] at hlen
  rw [c5] at hel
  have num : ∀ j, j < 32 → ∃ z, cs[j]? = some (.int .u8 z) := by
    intro j hj
    have h1 := hel j hj
    rw [List.getElem?_eq_getElem (by omega)] at h1
    obtain ⟨z, e, _, _⟩ := DataW.trod_int Try.underlying5 h1
    have h2 := congrArg (·[0]?) e
    exact ⟨z, by simpa using h2⟩
  refine ⟨cs.map intOf, ?_, by simpa using hlen⟩
  apply List.ext_getElem?
  intro j
  rcases Nat.lt_or_ge j 32 with hj | hj
  · obtain ⟨z, hc⟩ := num j hj
    simp [byt, hc, intOf]
  · rw [List.getElem?_eq_none (by omega), List.getElem?_eq_none (by simp [byt]; omega)]

theorem split36 (cs : List Value) (h : cs.length = 36) : cs = (cs.drop 0).take 1 ++ ((cs.drop 1).take 1 ++ ((cs.drop 2).take 32 ++ ((cs.drop 34).take 1 ++ (cs.drop 35).take 1))) := by
  apply List.ext_getElem?
  intro j
  simp only [List.getElem?_append, List.length_take, List.length_drop, List.getElem?_take, List.getElem?_drop]
  rcases Nat.lt_or_ge j 36 with hj | hj
  · by_cases h0 : j < 1
    · simp [h0, h]
    by_cases h1 : j < 2
    · simp [h, show ¬ j < 1 by omega, show j - 1 < 1 by omega, show 1 + (j - 1) = j by omega]
    by_cases h2 : j < 34
    · simp [h, show ¬ j < 1 by omega, show ¬ j - 1 < 1 by omega, show j - 1 - 1 < 32 by omega, show 2 + (j - 1 - 1) = j by omega]
    by_cases h3 : j < 35
    · simp [h, show ¬ j < 1 by omega, show ¬ j - 1 < 1 by omega, show ¬ j - 1 - 1 < 32 by omega, show j - 1 - 1 - 32 < 1 by omega, show 34 + (j - 1 - 1 - 32) = j by omega]
    · simp [h, show ¬ j < 1 by omega, show ¬ j - 1 < 1 by omega, show ¬ j - 1 - 1 < 32 by omega, show ¬ j - 1 - 1 - 32 < 1 by omega, show j - 1 - 1 - 32 - 1 < 1 by omega, show 35 + (j - 1 - 1 - 32 - 1) = j by omega]
  · rw [List.getElem?_eq_none (by omega)]
    simp [h, show ¬ j < 1 by omega, show ¬ j - 1 < 1 by omega, show ¬ j - 1 - 1 < 32 by omega, show ¬ j - 1 - 1 - 32 < 1 by omega, show ¬ j - 1 - 1 - 32 - 1 < 1 by omega]

theorem one_item {H : Type} {enc : TypeId × Value → H} {W : World} {base fuel : Nat} {held : Bool} {cs : List Value} {x : DataW H × List MemPlace} (h : DataW.trod enc Try.prog W base (fun _ => true) held fuel 31 cs = some x) : ∃ it : It, it.cells = cs ∧ it.Ok W := by
  obtain ⟨xs, m, _, _, hlen, hxs, hf⟩ := DataW.trod_struct Try.underlying31 h
  rw [c31] at hlen
  have hx5 : xs.length = 5 := hxs
  have f0 : DataW.trod enc Try.prog W base (fun _ => true) held m 3 ((cs.drop 0).take (Try.prog.cellsOf 3)) = xs[0]? := hf 0 _ rfl
  have f1 : DataW.trod enc Try.prog W base (fun _ => true) held m 28 ((cs.drop 1).take (Try.prog.cellsOf 28)) = xs[1]? := hf 1 _ rfl
  have f2 : DataW.trod enc Try.prog W base (fun _ => true) held m 29 ((cs.drop 2).take (Try.prog.cellsOf 29)) = xs[2]? := hf 2 _ rfl
  have f3 : DataW.trod enc Try.prog W base (fun _ => true) held m 26 ((cs.drop 34).take (Try.prog.cellsOf 26)) = xs[3]? := hf 3 _ rfl
  have f4 : DataW.trod enc Try.prog W base (fun _ => true) held m 3 ((cs.drop 35).take (Try.prog.cellsOf 3)) = xs[4]? := hf 4 _ rfl
  rw [c3] at f0 f4
  rw [c28] at f1
  rw [c29] at f2
  rw [c26] at f3
  rw [List.getElem?_eq_getElem (by omega)] at f0 f1 f2 f3 f4
  obtain ⟨K, e0, _, _⟩ := DataW.trod_int Try.underlying3 f0
  obtain ⟨N, e1, _, w1⟩ := DataW.trod_int Try.underlying28 f1
  obtain ⟨D, e2, hD⟩ := bytes_row f2
  obtain ⟨M, e4, _, _⟩ := DataW.trod_int Try.underlying3 f4
  have hb := bounds_u64 w1
  have hs : ∃ a n c, (cs.drop 34).take 1 = [.slice a n c] := by
    rcases open_ints Try.underlying26 Try.underlying5 c5 f3 with ⟨hcs, _⟩ | ⟨y, l, c, zs, hcs, _⟩
    · exact ⟨_, _, _, hcs⟩
    · exact ⟨_, _, _, hcs⟩
  obtain ⟨a, n, c, e3⟩ := hs
  rw [e3] at f3
  obtain ⟨B, hB, hR, hn, _, _⟩ := openNum (H := H) (enc := enc) (W := W) (base := base) (held := held) (a := a) (len := n) (cap := c) (d := (xs[3]).1) (p := (xs[3]).2) Try.underlying26 Try.underlying5 c5 ⟨m, f3⟩
  refine ⟨⟨K, N, D, a, n, c, M, B⟩, ?_, ⟨hD, hb.1, hb.2, hB, ⟨hn, hR⟩⟩⟩
  rw [split36 cs hlen, e0, e1, e2, e3, e4]
  rfl

theorem openItems {H : Type} {enc : TypeId × Value → H} {W : World} {base : Nat} {held : Bool} {a : Option Addr} {len cap : Nat} {d : DataW H} {p : List MemPlace}
    (h : DataW.Trod enc Try.prog W base (fun _ => true) held 22 (.slice a len cap) d p) : ∃ l : List It, l.length = len ∧ Items W a l ∧ (len = 0 ∨ ∃ el sp, d = .slice el sp ∧ el.length = len) := by
  obtain ⟨fuel, hf⟩ := h
  rcases open_slice Try.underlying22 hf with ⟨hcs, _⟩ | ⟨x, l, c, m, n, D, Pl, hcs, _, hl, hm, hmm, hd, hx⟩
  · simp [Value.cells] at hcs
    obtain ⟨rfl, rfl, rfl⟩ := hcs
    exact ⟨[], rfl, ⟨.inl rfl, by simp⟩, .inl rfl⟩
  · simp [Value.cells] at hcs
    obtain ⟨rfl, rfl, rfl⟩ := hcs
    have hmm' : m = cap := by simpa using hmm
    subst hmm'
    have each : ∀ i, i < m → ∃ it : It, it.Ok W ∧ ∀ j v, it.cells[j]? = some v → W.cell? ((x.add (i * 36)).add j) = some v := by
      intro i hi
      obtain ⟨cs', hcs, htr⟩ := hx i hi
      rw [c31] at hcs
      obtain ⟨it, he, hok⟩ := one_item htr
      have hget := World.cells?_some hcs
      refine ⟨it, hok, fun j v hv => ?_⟩
      have hj : j < 36 := by
        rcases Nat.lt_or_ge j 36 with h | h
        · exact h
        · rw [List.getElem?_eq_none (by rw [it.size hok.d]; exact h)] at hv
          cases hv
      rw [hget.2.2 j hj, ← he]
      exact hv
    refine ⟨(List.range len).map fun i => if h : i < m then (each i h).choose else default, by simp, ⟨?_, ?_⟩, .inr ⟨_, _, (Prod.mk.inj hd).1, by simp⟩⟩
    · by_cases h0 : len = 0
      · subst h0; exact .inl rfl
      · obtain ⟨b, off, spot⟩ := x
        have hsp : ∀ i, i < m → ∃ z, W.cell? (((⟨b, off, spot⟩ : Addr).add (i * 36)).add 0) = some z := by
          intro i hi
          obtain ⟨it, hok, hv⟩ := each i hi
          exact ⟨_, hv 0 _ rfl⟩
        have hspot : spot = none := by
          obtain ⟨z, hz⟩ := hsp 0 (by omega)
          simpa [Addr.add] using World.cell?_spot hz
        subst hspot
        refine .inr ⟨b, off, rfl, ?_, fun i hi => ?_⟩
        · obtain ⟨z, hz⟩ := hsp 0 (by omega)
          have := World.block_lt_of_cell? _ _ hz
          rw [Go.WideShapes.add_plain, Go.WideShapes.add_plain] at this
          exact this
        · have hi' : i < len := by simpa using hi
          have him : i < m := by omega
          intro j v hv
          simp only [List.getD, List.getElem?_map, List.getElem?_range hi', Option.map_some, Option.getD_some, him, dite_true] at hv
          have := (each i him).choose_spec.2 j v hv
          rw [Go.WideShapes.add_plain, Go.WideShapes.add_plain] at this
          exact this
    · intro y hy
      obtain ⟨i, hi, rfl⟩ := List.mem_map.1 hy
      have him : i < m := by have := List.mem_range.1 hi; omega
      simp only [him, dite_true]
      exact (each i him).choose_spec.1
end Go.Proofs.Ytneacogenjlhgaa
