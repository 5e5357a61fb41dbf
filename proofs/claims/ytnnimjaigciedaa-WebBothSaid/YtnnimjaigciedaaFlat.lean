/-
  What came in, taken apart to its single cells: structs and arrays within structs and arrays, as fields, or as a slice's elements; of any program.
-/
import Derived.Test.YtnnimjaigciedaaMem
import Derived.ProofKit
import Derived.OpenShut
import Derived.ShutString
import Derived.ChangeOld
import Derived.Deep.Slices
namespace Go.Proofs.Ytnnimjaigciedaa
open Go.ChangeShapes Go.WideShapes Go.ChangeAt Go.RowKit Go.Deep
set_option linter.unusedVariables false

/-- A type's parts that are neither struct nor array, each with its place. -/
def flatR (P : Program) : Nat → TypeId → List (Nat × TypeId)
  | 0, t => [(0, t)]
  | n + 1, t =>
    match P.underlying t with
    | some (.struct fs) => fs.toList.flatMap fun f => (flatR P n f.type).map fun (o, u) => (f.offset + o, u)
    | some (.array k e) => (List.range k).flatMap fun i => (flatR P n e).map fun (o, u) => (i * P.cellsOf e + o, u)
    | _ => [(0, t)]

section
variable {H : Type} {enc : TypeId × Value → H} {P : Program} {w : World} {base : Nat} {spare : Nat → Bool} {held : Bool}
/-- The part of type u that lies from cell o on. -/
def PartAt (enc : TypeId × Value → H) (P : Program) (w : World) (base : Nat) (spare : Nat → Bool) (held : Bool) (cs : List Value) (o : Nat) (u : TypeId) : Prop :=
  ∃ fuel cs' y, DataW.trod enc P w base spare held fuel u cs' = some y ∧ ∀ j v, cs'[j]? = some v → cs[o + j]? = some v

theorem flat_part : ∀ (n : Nat) (t : TypeId) (fuel : Nat) (cs : List Value) (x : DataW H × List MemPlace), DataW.trod enc P w base spare held fuel t cs = some x →
    ∀ o u, (o, u) ∈ flatR P n t → PartAt enc P w base spare held cs o u := by
  intro n
  induction n with
  | zero =>
    intro t fuel cs x h o u hm
    simp [flatR] at hm
    obtain ⟨rfl, rfl⟩ := hm
    exact ⟨fuel, cs, x, h, fun j v hv => by rw [Nat.zero_add]; exact hv⟩
  | succ n ih =>
    intro t fuel cs x h o u hm
    unfold flatR at hm
    split at hm
    · rename_i fs hu
      obtain ⟨f, hf, hm⟩ := List.mem_flatMap.1 hm
      obtain ⟨⟨o', u'⟩, hm2, he⟩ := List.mem_map.1 hm
      simp at he
      obtain ⟨rfl, rfl⟩ := he
      obtain ⟨xs, m, _, _, hl, hxl, hx⟩ := DataW.trod_struct hu h
      obtain ⟨i, hi, hfi⟩ := List.mem_iff_getElem.1 hf
      have hfi' : fs[i]? = some f := by rw [← hfi]; simp
      have h1 := hx i f hfi'
      have hi' : i < xs.length := by rw [hxl]; simpa using hi
      rw [List.getElem?_eq_getElem hi'] at h1
      obtain ⟨fu, cs', y, h2, h3⟩ := ih _ _ _ _ h1 _ _ hm2
      refine ⟨fu, cs', y, h2, fun j v hv => ?_⟩
      have h4 := h3 j v hv
      rw [List.getElem?_take] at h4
      split at h4
      · rw [List.getElem?_drop] at h4
        rw [Nat.add_assoc]; exact h4
      · cases h4
    · rename_i k e hu
      obtain ⟨i, hi, hm⟩ := List.mem_flatMap.1 hm
      obtain ⟨⟨o', u'⟩, hm2, he⟩ := List.mem_map.1 hm
      simp at he
      obtain ⟨rfl, rfl⟩ := he
      obtain ⟨xs, m, _, _, hl, hxl, hx⟩ := DataW.trod_array hu h
      have hik := List.mem_range.1 hi
      have h1 := hx i hik
      rw [List.getElem?_eq_getElem (by omega)] at h1
      obtain ⟨fu, cs', y, h2, h3⟩ := ih _ _ _ _ h1 _ _ hm2
      refine ⟨fu, cs', y, h2, fun j v hv => ?_⟩
      have h4 := h3 j v hv
      rw [List.getElem?_take] at h4
      split at h4
      · rw [List.getElem?_drop] at h4
        rw [Nat.add_assoc]; exact h4
      · cases h4
    · simp at hm
      obtain ⟨rfl, rfl⟩ := hm
      exact ⟨fuel, cs, x, h, fun j v hv => by rw [Nat.zero_add]; exact hv⟩

theorem PartAt.int {cs : List Value} {o : Nat} {u : TypeId} {k : IntKind} (h : PartAt enc P w base spare held cs o u) (hu : P.underlying u = some (.int k)) : ∃ z, cs[o]? = some (.int k z) ∧ (Lit.int k z).wf = true := by
  obtain ⟨fu, cs', y, h1, h2⟩ := h
  obtain ⟨z, rfl, _, hw⟩ := DataW.trod_int hu h1
  exact ⟨z, h2 0 _ rfl, hw⟩
theorem PartAt.bool {cs : List Value} {o : Nat} {u : TypeId} (h : PartAt enc P w base spare held cs o u) (hu : P.underlying u = some .bool) : ∃ b, cs[o]? = some (.bool b) := by
  obtain ⟨fu, cs', y, h1, h2⟩ := h
  obtain ⟨z, rfl, _⟩ := DataW.trod_bool hu h1
  exact ⟨z, h2 0 _ rfl⟩
theorem PartAt.string {cs : List Value} {o : Nat} {u : TypeId} (h : PartAt enc P w base spare held cs o u) (hu : P.underlying u = some .string) : ∃ s : ByteArray, cs[o]? = some (.string s) ∧ s.size ≤ maxLen := by
  obtain ⟨fu, cs', y, h1, h2⟩ := h
  obtain ⟨z, rfl, _, hw⟩ := DataW.trod_string hu h1
  exact ⟨z, h2 0 _ rfl, hw⟩
theorem PartAt.slice {cs : List Value} {o : Nat} {u e : TypeId} (h : PartAt enc P w base spare held cs o u) (hu : P.underlying u = some (.slice e)) : ∃ a n c, cs[o]? = some (.slice a n c) ∧ ∃ d p, DataW.Trod enc P w base spare held u (.slice a n c) d p := by
  obtain ⟨fu, cs', y, h1, h2⟩ := h
  rcases DataW.trod_slice hu h1 with ⟨rfl, _⟩ | ⟨a, len, cap, elems, rest, n, _, rfl, _⟩
  · exact ⟨_, _, _, h2 0 _ rfl, y.1, y.2, fu, h1⟩
  · exact ⟨_, _, _, h2 0 _ rfl, y.1, y.2, fu, h1⟩

/-- A slice whose elements take c cells each: nothing; or its cells lie in one block, each element with all of its parts. -/
def FlatRow (enc : TypeId × Value → H) (P : Program) (w : World) (base : Nat) (spare : Nat → Bool) (held : Bool) (a : Option Addr) (c n : Nat) (ls : List (Nat × TypeId)) : Prop :=
  (n = 0 ∨ ∃ b off, a = some ⟨b, off, none⟩ ∧ b < w.heap.size ∧ ∀ i, i < n → ∃ cs : List Value, (∀ j v, cs[j]? = some v → w.cell? ⟨b, off + i * c + j, none⟩ = some v) ∧ ∀ o u, (o, u) ∈ ls → PartAt enc P w base spare held cs o u) ∧ n ≤ maxLen ∧ (a = none → n = 0)

theorem open_flat {t e : TypeId} {a : Option Addr} {len cap : Nat} {d : DataW H} {p : List MemPlace} (n c : Nat) (ls : List (Nat × TypeId)) (ht : P.underlying t = some (.slice e)) (hc : P.cellsOf e = c) (hc0 : 0 < c) (hls : flatR P n e = ls) (hne : ∃ u k, (0, u) ∈ ls ∧ P.underlying u = some (.int k))
    (h : DataW.Trod enc P w base spare held t (.slice a len cap) d p) : FlatRow enc P w base spare held a c len ls := by
  subst hc hls
  obtain ⟨fuel, hf⟩ := h
  rcases open_slice ht hf with ⟨hcs, _⟩ | ⟨x, l, cp, m, fu, D, Pl, hcs, _, hl, hm, hmm, hd, hx⟩
  · simp [Value.cells] at hcs
    obtain ⟨rfl, rfl, rfl⟩ := hcs
    exact ⟨.inl rfl, by unfold maxLen; omega, fun _ => rfl⟩
  · simp [Value.cells] at hcs
    obtain ⟨rfl, rfl, rfl⟩ := hcs
    have hlm : len ≤ m := by rw [hmm]; split <;> omega
    refine ⟨?_, by omega, fun h => by cases h⟩
    by_cases h0 : len = 0
    · exact .inl h0
    · right
      obtain ⟨b, off, spot⟩ := x
      have first : ∃ v, w.cell? ((⟨b, off, spot⟩ : Addr).add (0 * P.cellsOf e) |>.add 0) = some v := by
        obtain ⟨cs', h1, h2⟩ := hx 0 (by omega)
        obtain ⟨u, k, hu, hk⟩ := hne
        obtain ⟨z, hz, _⟩ := (flat_part n e _ _ _ h2 0 u hu).int hk
        have h3 := World.cells?_some h1
        exact ⟨_, by rw [h3.2.2 0 hc0]; exact hz⟩
      have hspot : spot = none := by
        obtain ⟨v, hv⟩ := first
        simpa [Addr.add] using World.cell?_spot hv
      subst hspot
      refine ⟨b, off, rfl, ?_, fun i hi => ?_⟩
      · obtain ⟨v, hv⟩ := first
        have := World.block_lt_of_cell? _ _ hv
        rw [Go.WideShapes.add_plain, Go.WideShapes.add_plain] at this
        exact this
      · obtain ⟨cs', h1, h2⟩ := hx i (by omega)
        have h3 := World.cells?_some h1
        refine ⟨cs', fun j v hv => ?_, fun o u hm => flat_part n e _ _ _ h2 o u hm⟩
        have hj : j < P.cellsOf e := by
          rcases Nat.lt_or_ge j (P.cellsOf e) with h | h
          · exact h
          · rw [List.getElem?_eq_none (by omega)] at hv; cases hv
        have h4 := h3.2.2 j hj
        rw [Go.WideShapes.add_plain, Go.WideShapes.add_plain] at h4
        rw [h4]; exact hv

theorem FlatRow.row {a : Option Addr} {c n i : Nat} {ls : List (Nat × TypeId)} (h : FlatRow enc P w base spare held a c n ls) (hi : i < n) : ∃ b off, a = some ⟨b, off, none⟩ ∧ b < w.heap.size ∧ ∃ cs : List Value, (∀ j v, cs[j]? = some v → w.cell? ⟨b, off + i * c + j, none⟩ = some v) ∧ ∀ o u, (o, u) ∈ ls → PartAt enc P w base spare held cs o u := by
  rcases h.1 with h0 | ⟨b, off, ha, hb, hx⟩
  · omega
  · exact ⟨b, off, ha, hb, hx i hi⟩
end
end Go.Proofs.Ytnnimjaigciedaa
