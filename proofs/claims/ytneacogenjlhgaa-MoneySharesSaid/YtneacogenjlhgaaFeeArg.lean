/-
  A slice of the document's fees that came in, read as a list of pairs of numbers.
-/
import Derived.Test.YtneacogenjlhgaaBack
import Derived.Deep.SlicePairs
namespace Go.Proofs.Ytneacogenjlhgaa
open Go.ChangeShapes Go.WideShapes Go.ChangeAt Go.RowKit Go.Deep
set_option linter.unusedVariables false

/-- What a walk is told of such a slice. -/
def IsFees (w : World) (a : Option Addr) (len cap : Nat) (fs : List (Int × Int)) : Prop := fs.length = len ∧ FeeRow w a fs

theorem open69 {H : Type} {enc : TypeId × Value → H} {W : World} {base : Nat} {spare : Nat → Bool} {held : Bool} {a : Option Addr} {len cap : Nat} {d : DataW H} {p : List MemPlace}
    (h : DataW.Trod enc Try.prog W base spare held 69 (.slice a len cap) d p) : ∃ fs, IsFees W a len cap fs := by
  obtain ⟨fuel, hf⟩ := h
  rcases open_slice_pairs Try.underlying69 Try.underlying81 (by kernel_rfl) rfl rfl (by kernel_rfl) (by kernel_rfl) hf with ⟨hcs, _⟩ | ⟨x, l, c, m, n, V0, V1, D0, D1, P0, P1, hcs, _, hl, hm, hmm, _, hx⟩
  · simp [Value.cells] at hcs
    obtain ⟨rfl, rfl, rfl⟩ := hcs
    exact ⟨[], rfl, .inl rfl, by simp⟩
  · simp [Value.cells] at hcs
    obtain ⟨rfl, rfl, rfl⟩ := hcs
    have hlm : len ≤ m := by rw [hmm]; split <;> omega
    have hnum : ∀ i, i < m → (V0 i = .int .u64 (intOf (V0 i)) ∧ Word (intOf (V0 i))) ∧ (V1 i = .int .u64 (intOf (V1 i)) ∧ Word (intOf (V1 i))) := by
      intro i hi
      obtain ⟨_, _, t0, t1⟩ := hx i hi
      obtain ⟨z0, e0, _, g0⟩ := DataW.trod_int Try.underlying28 t0
      obtain ⟨z1, e1, _, g1⟩ := DataW.trod_int Try.underlying28 t1
      simp at e0 e1
      rw [e0, e1]
      exact ⟨⟨rfl, word_wf g0⟩, ⟨rfl, word_wf g1⟩⟩
    refine ⟨(List.range len).map fun i => (intOf (V0 i), intOf (V1 i)), by simp, ?_, ?_⟩
    · by_cases h0 : len = 0
      · subst h0; exact .inl rfl
      · obtain ⟨b, off, spot⟩ := x
        have hspot : spot = none := by simpa [Addr.add] using World.cell?_spot (hx 0 (by omega)).1
        subst hspot
        refine .inr ⟨b, off, rfl, ?_, fun i hi => ?_⟩
        · have := World.block_lt_of_cell? _ _ (hx 0 (by omega)).1
          rw [Go.WideShapes.add_plain] at this
          exact this
        · have hi' : i < len := by simpa using hi
          obtain ⟨c0, c1, _, _⟩ := hx i (by omega)
          rw [Go.WideShapes.add_plain] at c0 c1
          rw [Nat.add_assoc, c0, c1]
          simp only [List.getD, List.getElem?_map, List.getElem?_range hi', Option.map_some, Option.getD_some]
          exact ⟨by rw [← (hnum i (by omega)).1.1], by rw [← (hnum i (by omega)).2.1]⟩
    · intro f hf
      obtain ⟨i, hi, rfl⟩ := List.mem_map.1 hf
      have := hnum i (by have := List.mem_range.1 hi; omega)
      exact ⟨this.1.2, this.2.2⟩

theorem FeeRow.of_own {w : World} {base : Nat} {v : Value} {fs : List (Int × Int)} (h : w.ownsRow base 78 2 v fs.length (flat fs)) (hw : ∀ f ∈ fs, Word f.1 ∧ Word f.2) : ∃ a c, v = .slice a fs.length c ∧ FeeRow w a fs := by
  have get : ∀ (l : List (Int × Int)) (i : Nat), i < l.length → (flat l)[i * 2]? = some (.int .u64 (l.getD i (0, 0)).1) ∧ (flat l)[i * 2 + 1]? = some (.int .u64 (l.getD i (0, 0)).2) := by
    intro l
    induction l with
    | nil => intro i hi; simp at hi
    | cons f r ih =>
      intro i hi
      have e : flat (f :: r) = .int .u64 f.1 :: .int .u64 f.2 :: flat r := by simp [flat]
      rw [e]
      cases i with
      | zero => simp
      | succ i =>
        have := ih i (by simpa using hi)
        rw [show (i + 1) * 2 = i * 2 + 1 + 1 by omega]
        simpa using this
  rcases h.2 with ⟨rfl, h0⟩ | ⟨g, c, cur, rfl, _, hg, _⟩
  · have : fs = [] := List.eq_nil_of_length_eq_zero h0
    subst this
    exact ⟨none, 0, rfl, .inl rfl, hw⟩
  · refine ⟨_, c, rfl, .inr ⟨g, 0, rfl, ?_, fun i hi => ?_⟩, hw⟩
    · rcases Nat.lt_or_ge g w.heap.size with h2 | h2
      · exact h2
      · rw [Array.getElem?_eq_none h2] at hg; cases hg
    · rw [Nat.zero_add, h.cellAt (i * 2) (by omega), h.cellAt (i * 2 + 1) (by omega)]
      exact get fs i hi

theorem fees_row (a : Option Addr) (cap : Nat) (fs : List (Int × Int)) (w : World) (hN : FeeRow w a fs) (hlen : fs.length ≤ 200) :
    Calls Try.prog 47 #[.slice a fs.length cap] w fun e w' => ∃ a' c', e = .returned (.slice a' fs.length c') ∧ FeeRow w' a' fs ∧ Below w.heap.size w w' := by
  refine (fees_any a cap fs w hN hlen).mono fun e w' ⟨v, he, ho, hB⟩ => ?_
  obtain ⟨a', c', rfl, hn⟩ := FeeRow.of_own ho hN.2
  exact ⟨a', c', he, hn, hB⟩
end Go.Proofs.Ytneacogenjlhgaa
