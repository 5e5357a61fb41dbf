/-
  A slice of arrays of 32 bytes that came in, read off the argument.
-/
import Derived.Test.YtcpjfdaacnkcnaaDoorArgS
namespace Go.Proofs.YtcpjfdaacnkcnaaDoor
open Go.ChangeShapes Go.WideShapes Go.ChangeAt Go.RowKit Go.Deep
set_option linter.unusedVariables false

/-- Sums that came in: each of 32 bytes, one behind the other. -/
structure CameD (W : World) (A : Option Addr) (m : Nat) (ds : List (List Nat)) : Prop where
  len : ds.length = m
  at_ : ds = [] ∨ ∃ b off, A = some ⟨b, off, none⟩ ∧ b < W.heap.size ∧ ∀ i, i < ds.length → W.rangeAt b (off + i * 32) (w8 (ds.getD i []))
  each : ∀ d ∈ ds, d.length = 32 ∧ ∀ x ∈ d, x < 256

theorem one_sum {H : Type} {enc : TypeId × Value → H} {W : World} {base fuel : Nat} {spare : Nat → Bool} {held : Bool} {cs : List Value} {x : DataW H × List MemPlace} (h : DataW.trod enc Tryd.prog W base spare held fuel 24 cs = some x) :
    ∃ d : List Nat, cs = w8 d ∧ d.length = 32 ∧ ∀ y ∈ d, y < 256 := by
  obtain ⟨xs, m', _, _, hlen, hxs, hel⟩ := DataW.trod_array Tryd.underlying24 h
  rw [cells24] at hlen
  rw [cells5] at hel
  have num : ∀ j, j < 32 → ∃ z : Nat, z < 256 ∧ cs[j]? = some (.int .u8 (z : Int)) := by
    intro j hj
    have h1 := hel j hj
    rw [List.getElem?_eq_getElem (by omega)] at h1
    obtain ⟨z, e, _, hw⟩ := DataW.trod_int Tryd.underlying5 h1
    have h2 := congrArg (·[0]?) e
    have h3 : cs[j]? = some (.int .u8 z) := by simpa using h2
    have hb := bounds_u8 hw
    exact ⟨z.toNat, by omega, by rw [h3, Int.toNat_of_nonneg hb.1]⟩
  refine ⟨cs.map fun v => (intOf v).toNat, ?_, by simpa using hlen, ?_⟩
  · apply List.ext_getElem?
    intro j
    rcases Nat.lt_or_ge j 32 with hj | hj
    · obtain ⟨z, hz, hc⟩ := num j hj
      rw [hc]
      simp only [w8, List.getElem?_map, hc, Option.map_some, intOf, Int.toNat_natCast]
    · rw [List.getElem?_eq_none (by omega), List.getElem?_eq_none (by simp [w8]; omega)]
  · intro y hy
    obtain ⟨v, hv, rfl⟩ := List.mem_map.1 hy
    obtain ⟨j, hj, he⟩ := List.mem_iff_getElem.1 hv
    obtain ⟨z, hz, hc⟩ := num j (by omega)
    rw [List.getElem?_eq_getElem hj, he] at hc
    injection hc with hc
    subst hc
    simpa [intOf] using hz

theorem openDigs {H : Type} {enc : TypeId × Value → H} {W : World} {base : Nat} {held : Bool} {a : Option Addr} {len cap : Nat} {d : DataW H} {p : List MemPlace}
    (h : DataW.Trod enc Tryd.prog W base (fun _ => true) held 46 (.slice a len cap) d p) (hsz : ∀ n ∈ d.weights Tryd.prog 46, n ≤ reachBytes) : ∃ ds, CameD W a len ds := by
  obtain ⟨fuel, hf⟩ := h
  rcases open_slice Tryd.underlying46 hf with ⟨hcs, _⟩ | ⟨x, l, c, m, n, D, Pl, hcs, _, hl, hm, hmm, hd, hx⟩
  · simp [Value.cells] at hcs
    obtain ⟨rfl, rfl, rfl⟩ := hcs
    exact ⟨[], rfl, .inl rfl, by simp⟩
  · simp [Value.cells] at hcs
    obtain ⟨rfl, rfl, rfl⟩ := hcs
    have hmm' : m = cap := by simpa using hmm
    subst hmm'
    have each : ∀ i, i < m → ∃ e : List Nat, (e.length = 32 ∧ ∀ y ∈ e, y < 256) ∧ ∀ j v, (w8 e)[j]? = some v → W.cell? ((x.add (i * 32)).add j) = some v := by
      intro i hi
      obtain ⟨cs', hcs, htr⟩ := hx i hi
      rw [cells24] at hcs
      obtain ⟨e, he, h1, h2⟩ := one_sum htr
      have hget := World.cells?_some hcs
      refine ⟨e, ⟨h1, h2⟩, fun j v hv => ?_⟩
      have hj : j < 32 := by
        rcases Nat.lt_or_ge j 32 with h | h
        · exact h
        · rw [List.getElem?_eq_none (by rw [w8_length, h1]; exact h)] at hv
          cases hv
      rw [hget.2.2 j hj, he]
      exact hv
    refine ⟨(List.range len).map fun i => if h : i < m then (each i h).choose else [], by simp, ?_, ?_⟩
    · by_cases h0 : len = 0
      · subst h0; exact .inl rfl
      · obtain ⟨b, off, spot⟩ := x
        have hsp : ∀ i, i < m → ∃ z, W.cell? (((⟨b, off, spot⟩ : Addr).add (i * 32)).add 0) = some z := by
          intro i hi
          obtain ⟨e, ⟨h1, _⟩, hv⟩ := each i hi
          have h2 : 0 < (w8 e).length := by rw [w8_length, h1]; omega
          exact ⟨_, hv 0 _ (List.getElem?_eq_getElem h2)⟩
        have hspot : spot = none := by
          obtain ⟨z, hz⟩ := hsp 0 (by omega)
          simpa [Addr.add] using World.cell?_spot hz
        subst hspot
        refine .inr ⟨b, off, rfl, ?_, fun i hi => ?_⟩
        · obtain ⟨z, hz⟩ := hsp 0 (by omega)
          have := World.block_lt_of_cell? _ _ hz
          rw [Go.WideShapes.add_plain, Go.WideShapes.add_plain] at this
          exact this
        · have hi' : i < len := by simpa using hi
          have him : i < m := by omega
          intro j v hv
          simp only [List.getD, List.getElem?_map, List.getElem?_range hi', Option.map_some, Option.getD_some, him, dite_true] at hv
          have := (each i him).choose_spec.2 j v hv
          rw [Go.WideShapes.add_plain, Go.WideShapes.add_plain] at this
          exact this
    · intro e he
      obtain ⟨i, hi, rfl⟩ := List.mem_map.1 he
      have him : i < m := by have := List.mem_range.1 hi; omega
      simp only [him, dite_true]
      exact (each i him).choose_spec.1
end Go.Proofs.YtcpjfdaacnkcnaaDoor
