/-
  Spots, and slices of spots, that came in, read off the arguments.
-/
import Derived.Test.YtjbjekejekmipaaRows
import Derived.Test.YtjbjekejekmipaaChecked
import Derived.Test.YtjbjekejekmipaaChA
import Derived.ProofKit
import Derived.OpenShut
import Derived.ShutString
import Derived.ChangeOld
import Derived.Deep.SlicePairs
namespace Go.Proofs.Ytjbjekejekmipaa
open Go.ChangeShapes Go.WideShapes Go.ChangeAt Go.RowKit Go.Deep
set_option linter.unusedVariables false

theorem own : ownKnob Try.prog.godebug = none := by kernel_rfl
theorem laidOut : laidOutB Try.prog = true := by kernel_rfl

/-- A number of 64 bits with a sign. -/
def I64 (x : Int) : Prop := -9223372036854775808 ≤ x ∧ x ≤ 9223372036854775807
theorem i64_wf {x : Int} (h : (Lit.int .i64 x).wf = true) : I64 x := by
  simp [Lit.wf, IntKind.min, IntKind.max, IntKind.signed, IntKind.bits] at h
  exact ⟨by omega, by omega⟩

set_option maxRecDepth 100000 in
theorem open23 {H : Type} {enc : TypeId × Value → H} {W : World} {base b0 : Nat} {spare : Nat → Bool} {held : Bool} {v : Value} {d : DataW H} {p : List MemPlace} (hv : Value.okWide Try.prog W .any b0 23 v)
    (h : DataW.Trod enc Try.prog W base spare held 23 v d p) : ∃ x y, v = .agg #[.int .i64 x, .int .i64 y] ∧ I64 x ∧ I64 y := by
  simp only [Value.okWide, Try.underlying23] at hv
  obtain ⟨cs, rfl, _⟩ := hv
  obtain ⟨fuel, hf⟩ := h
  have hcl : (Value.agg cs).cells.toList = cs.toList := rfl
  rw [hcl] at hf
  obtain ⟨y0, y1, m, _, hl, h0, h1⟩ := trod_struct2 Try.underlying23 hf
  have c23 : Try.prog.cellsOf 23 = 2 := by kernel_rfl
  have c3 : Try.prog.cellsOf 3 = 1 := by kernel_rfl
  rw [c23] at hl
  simp only [c3] at h0 h1
  obtain ⟨cs⟩ := cs
  match cs, hl with
  | [u, v], _ =>
    obtain ⟨z0, e0, _, g0⟩ := DataW.trod_int Try.underlying3 h0
    obtain ⟨z1, e1, _, g1⟩ := DataW.trod_int Try.underlying3 h1
    simp at e0 e1
    subst e0 e1
    exact ⟨z0, z1, rfl, i64_wf g0, i64_wf g1⟩

set_option maxRecDepth 100000 in
theorem open38 {H : Type} {enc : TypeId × Value → H} {W : World} {base : Nat} {spare : Nat → Bool} {held : Bool} {a : Option Addr} {len cap : Nat} {d : DataW H} {p : List MemPlace}
    (h : DataW.Trod enc Try.prog W base spare held 38 (.slice a len cap) d p) : ∃ l : List (Int × Int), l.length = len ∧ SpotRow W a l ∧ (∀ q ∈ l, I64 q.1 ∧ I64 q.2) ∧ len ≤ maxLen := by
  obtain ⟨fuel, hf⟩ := h
  rcases open_slice_pairs Try.underlying38 Try.underlying23 (by kernel_rfl) rfl rfl (by kernel_rfl) (by kernel_rfl) hf with ⟨hcs, _⟩ | ⟨x, l, c, m, n, V0, V1, D0, D1, P0, P1, hcs, _, hl, hm, hmm, _, hx⟩
  · simp [Value.cells] at hcs
    obtain ⟨rfl, rfl, rfl⟩ := hcs
    exact ⟨[], rfl, .inl rfl, by simp, Nat.zero_le _⟩
  · simp [Value.cells] at hcs
    obtain ⟨rfl, rfl, rfl⟩ := hcs
    have hlm : len ≤ m := by rw [hmm]; split <;> omega
    have hnum : ∀ i, i < m → (V0 i = .int .i64 (intOf (V0 i)) ∧ I64 (intOf (V0 i))) ∧ (V1 i = .int .i64 (intOf (V1 i)) ∧ I64 (intOf (V1 i))) := by
      intro i hi
      obtain ⟨_, _, t0, t1⟩ := hx i hi
      obtain ⟨z0, e0, _, g0⟩ := DataW.trod_int Try.underlying3 t0
      obtain ⟨z1, e1, _, g1⟩ := DataW.trod_int Try.underlying3 t1
      simp at e0 e1
      rw [e0, e1]
      exact ⟨⟨rfl, i64_wf g0⟩, ⟨rfl, i64_wf g1⟩⟩
    refine ⟨(List.range len).map fun i => (intOf (V0 i), intOf (V1 i)), by simp, ?_, ?_, by omega⟩
    · by_cases h0 : len = 0
      · subst h0; exact .inl rfl
      · obtain ⟨b, off, spot⟩ := x
        have hspot : spot = none := by simpa [Addr.add] using World.cell?_spot (hx 0 (by omega)).1
        subst hspot
        refine .inr ⟨b, off, rfl, ?_, fun i hi => ?_⟩
        · have := World.block_lt_of_cell? _ _ (hx 0 (by omega)).1
          rw [Go.WideShapes.add_plain] at this
          exact this
        · have hi' : i < len := by simpa using hi
          obtain ⟨c0, c1, _, _⟩ := hx i (by omega)
          rw [Go.WideShapes.add_plain] at c0 c1
          rw [Nat.add_assoc, c0, c1]
          simp only [List.getD, List.getElem?_map, List.getElem?_range hi', Option.map_some, Option.getD_some]
          exact ⟨by rw [← (hnum i (by omega)).1.1], by rw [← (hnum i (by omega)).2.1]⟩
    · intro f hf
      obtain ⟨i, hi, rfl⟩ := List.mem_map.1 hf
      have := hnum i (by have := List.mem_range.1 hi; omega)
      exact ⟨this.1.2, this.2.2⟩
end Go.Proofs.Ytjbjekejekmipaa
