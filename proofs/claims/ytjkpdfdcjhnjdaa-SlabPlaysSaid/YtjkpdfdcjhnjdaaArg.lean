/-
  Bytes that came in, read off the argument.
-/
import Derived.Test.YtjkpdfdcjhnjdaaSlF
import Derived.Test.YtjkpdfdcjhnjdaaFlat
namespace Go.Proofs.Ytjkpdfdcjhnjdaa
open Go.ChangeShapes Go.WideShapes Go.ChangeAt Go.RowKit Go.Deep
set_option linter.unusedVariables false

theorem openB {H : Type} {enc : TypeId × Value → H} {W : World} {base : Nat} {spare : Nat → Bool} {held : Bool} {a : Option Addr} {len cap : Nat} {d : DataW H} {p : List MemPlace}
    (h : DataW.Trod enc Try.prog W base spare held 27 (.slice a len cap) d p) : ∃ l, len = l.length ∧ Src W a cap l ∧ len ≤ maxLen ∧ (a = none → len = 0) := by
  obtain ⟨fuel, hf⟩ := h
  rcases open_ints Try.underlying27 Try.underlying5 (by kernel_rfl) hf with ⟨hcs, _⟩ | ⟨x, l, c, zs, hcs, _, hl, hm, hz, hd, hcell, hwz⟩
  · simp [Value.cells] at hcs
    obtain ⟨rfl, rfl, rfl⟩ := hcs
    exact ⟨[], rfl, ⟨fun _ => rfl, .inl rfl⟩, by unfold maxLen; omega, fun _ => rfl⟩
  · simp [Value.cells] at hcs
    obtain ⟨rfl, rfl, rfl⟩ := hcs
    refine ⟨zs.take len, ?_, ⟨fun h => (by cases h), ?_⟩, by omega, fun h => (by cases h)⟩
    · rw [List.length_take, hz]; split <;> omega
    · have hlz : len ≤ zs.length := by rw [hz]; split <;> omega
      rcases Nat.eq_zero_or_pos len with h0 | h0
      · exact .inl (by rw [h0]; rfl)
      · right
        obtain ⟨b, off, spot⟩ := x
        have hspot : spot = none := by simpa [Addr.add] using World.cell?_spot (hcell 0 (by omega))
        subst hspot
        refine ⟨b, off, rfl, ?_, fun i hi => ?_⟩
        · have := World.block_lt_of_cell? _ _ (hcell 0 (by omega))
          rwa [Go.WideShapes.add_plain] at this
        · rw [List.length_take] at hi
          have := hcell i (by omega)
          rw [Go.WideShapes.add_plain] at this
          rw [this]
          simp [List.getD, show i < len by omega]
end Go.Proofs.Ytjkpdfdcjhnjdaa
