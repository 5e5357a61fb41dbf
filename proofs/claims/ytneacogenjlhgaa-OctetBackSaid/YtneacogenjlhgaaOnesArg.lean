/-
  Slices of numbers and of sums that came in, read as lists; how long they may be.
-/
import Derived.Test.YtneacogenjlhgaaOnesLib
import Derived.Deep.Slices
import Derived.SizedLaws
import Derived.OpenShut
import Derived.ChangeOld
namespace Go.Proofs.Ytneacogenjlhgaa
open Go.ChangeShapes Go.WideShapes Go.ChangeAt Go.RowKit Go.Deep
set_option linter.unusedVariables false

/-- A slice of numbers. -/
theorem openNum {H : Type} {enc : TypeId × Value → H} {W : World} {base : Nat} {held : Bool} {k : IntKind} {t e : TypeId} {a : Option Addr} {len cap : Nat} {d : DataW H} {p : List MemPlace}
    (ht : Try.prog.underlying t = some (.slice e)) (he : Try.prog.underlying e = some (.int k)) (hc : Try.prog.cellsOf e = 1)
    (h : DataW.Trod enc Try.prog W base (fun _ => true) held t (.slice a len cap) d p) :
    ∃ l : List Int, l.length = len ∧ Rd k W a l ∧ (a = none → cap = 0) ∧ (∀ n ∈ l, (Lit.int k n).wf = true) ∧ (len = 0 ∨ ∃ el sp, d = .slice el sp ∧ el.length = len) := by
  obtain ⟨fuel, hf⟩ := h
  rcases open_ints ht he hc hf with ⟨hcs, _⟩ | ⟨x, l, c, zs, hcs, _, hl, hm, hz, hd, hcell, hwz⟩
  · simp [Value.cells] at hcs
    obtain ⟨rfl, rfl, rfl⟩ := hcs
    exact ⟨[], rfl, .inl rfl, fun _ => rfl, by simp, .inl rfl⟩
  · simp [Value.cells] at hcs
    obtain ⟨rfl, rfl, rfl⟩ := hcs
    have hz' : zs.length = cap := by simpa using hz
    have hln : (zs.take len).length = len := by rw [List.length_take]; omega
    refine ⟨zs.take len, hln, ?_, fun h => (by cases h), fun n hn => hwz n (List.mem_of_mem_take hn), .inr ⟨_, _, (Prod.mk.inj hd).1, by simpa [lits] using hln⟩⟩
    by_cases h0 : len = 0
    · subst h0; exact .inl rfl
    · obtain ⟨b, off, spot⟩ := x
      have hspot : spot = none := by simpa [Addr.add] using World.cell?_spot (hcell 0 (by omega))
      subst hspot
      refine .inr ⟨b, off, rfl, ?_, fun i hi => ?_⟩
      · have := World.block_lt_of_cell? _ _ (hcell 0 (by omega))
        rw [Go.WideShapes.add_plain] at this
        exact this
      · have hi' : i < len := by omega
        have h1 := hcell i (by omega)
        rw [Go.WideShapes.add_plain] at h1
        rw [h1]
        simp [List.getD, hi']

/-- A slice of sums (32 bytes each). -/
theorem openDigs {H : Type} {enc : TypeId × Value → H} {W : World} {base : Nat} {held : Bool} {a : Option Addr} {len cap : Nat} {d : DataW H} {p : List MemPlace}
    (h : DataW.Trod enc Try.prog W base (fun _ => true) held 52 (.slice a len cap) d p) :
    ∃ l : List (List Int), l.length = len ∧ Digs W a l ∧ (len = 0 ∨ ∃ el sp, d = .slice el sp ∧ el.length = len) := by
  obtain ⟨fuel, hf⟩ := h
  have hc29 : Try.prog.cellsOf 29 = 32 := by kernel_rfl
  have hc5 : Try.prog.cellsOf 5 = 1 := by kernel_rfl
  rcases open_slice Try.underlying52 hf with ⟨hcs, _⟩ | ⟨x, l, c, m, n, D, Pl, hcs, _, hl, hm, hmm, hd, hx⟩
  · simp [Value.cells] at hcs
    obtain ⟨rfl, rfl, rfl⟩ := hcs
    exact ⟨[], rfl, ⟨.inl rfl, by simp⟩, .inl rfl⟩
  · simp [Value.cells] at hcs
    obtain ⟨rfl, rfl, rfl⟩ := hcs
    have hmm' : m = cap := by simpa using hmm
    subst hmm'
    have each : ∀ i, i < m → ∃ ns : List Int, ns.length = 32 ∧ ∀ j v, (byt ns)[j]? = some v → W.cell? ((x.add (i * 32)).add j) = some v := by
      intro i hi
      obtain ⟨cs', hcs, htr⟩ := hx i hi
      rw [hc29] at hcs
      obtain ⟨xs, m', _, _, hlen, hxs, hel⟩ := DataW.trod_array Try.underlying29 htr
      rw [hc29] at hlen
      rw [hc5] at hel
      have hget := World.cells?_some hcs
      have num : ∀ j, j < 32 → ∃ z, cs'[j]? = some (.int .u8 z) := by
        intro j hj
        have h1 := hel j hj
        rw [List.getElem?_eq_getElem (by omega)] at h1
        obtain ⟨z, e, _, _⟩ := DataW.trod_int Try.underlying5 h1
        refine ⟨z, ?_⟩
        have h2 := congrArg (·[0]?) e
        simpa using h2
      refine ⟨cs'.map intOf, by simp [hlen], fun j v hv => ?_⟩
      have hj : j < 32 := by
        rcases Nat.lt_or_ge j 32 with h | h
        · exact h
        · rw [List.getElem?_eq_none (by simp [byt, hlen]; omega)] at hv
          cases hv
      obtain ⟨z, hz⟩ := num j hj
      have hv' : v = .int .u8 z := by
        simp [byt, hz, intOf] at hv
        exact hv.symm
      subst hv'
      rw [hget.2.2 j hj]
      exact hz
    refine ⟨(List.range len).map fun i => if h : i < m then (each i h).choose else [], by simp, ⟨?_, ?_⟩, .inr ⟨_, _, (Prod.mk.inj hd).1, by simp⟩⟩
    · by_cases h0 : len = 0
      · subst h0; exact .inl rfl
      · obtain ⟨b, off, spot⟩ := x
        have hsp : ∀ i, i < m → ∃ z, W.cell? (((⟨b, off, spot⟩ : Addr).add (i * 32)).add 0) = some z := by
          intro i hi
          obtain ⟨ns, hns, hv⟩ := each i hi
          have h1 : 0 < (byt ns).length := by simp [byt, hns]
          exact ⟨_, hv 0 _ (List.getElem?_eq_getElem h1)⟩
        have hspot : spot = none := by
          obtain ⟨z, hz⟩ := hsp 0 (by omega)
          simpa [Addr.add] using World.cell?_spot hz
        subst hspot
        refine .inr ⟨b, off, rfl, ?_, fun i hi => ?_⟩
        · obtain ⟨z, hz⟩ := hsp 0 (by omega)
          have := World.block_lt_of_cell? _ _ hz
          rw [Go.WideShapes.add_plain, Go.WideShapes.add_plain] at this
          exact this
        · have hi' : i < len := by simpa using hi
          have him : i < m := by omega
          intro j v hv
          simp only [List.getD, List.getElem?_map, List.getElem?_range hi', Option.map_some, Option.getD_some, him, dite_true] at hv
          have := (each i him).choose_spec.2 j v hv
          rw [Go.WideShapes.add_plain, Go.WideShapes.add_plain] at this
          exact this
    · intro y hy
      obtain ⟨i, hi, rfl⟩ := List.mem_map.1 hy
      have hi' : i < m := by have := List.mem_range.1 hi; omega
      simp only [hi', dite_true]
      exact (each i hi').choose_spec.1
end Go.Proofs.Ytneacogenjlhgaa
