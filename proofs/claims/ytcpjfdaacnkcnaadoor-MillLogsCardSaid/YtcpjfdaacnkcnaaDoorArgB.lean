/-
  Bytes that came in, read off the argument.
-/
import Derived.Test.YtcpjfdaacnkcnaaDoorArg
import Derived.Test.YtcpjfdaacnkcnaaDoorSumsWalk
import Derived.Deep.Slices
namespace Go.Proofs.YtcpjfdaacnkcnaaDoor
open Go.ChangeShapes Go.WideShapes Go.ChangeAt Go.RowKit Go.Deep
set_option linter.unusedVariables false

theorem openBytes {H : Type} {enc : TypeId × Value → H} {W : World} {base : Nat} {held : Bool} {a : Option Addr} {len cap : Nat} {d : DataW H} {p : List MemPlace}
    (h : DataW.Trod enc Tryd.prog W base (fun _ => true) held 22 (.slice a len cap) d p) (hsz : ∀ n ∈ d.weights Tryd.prog 22, n ≤ reachBytes) : ∃ l, CameB W a cap len l := by
  obtain ⟨fuel, hf⟩ := h
  rcases open_ints Tryd.underlying22 Tryd.underlying5 cells5 hf with ⟨hcs, _⟩ | ⟨x, l, c, zs, hcs, _, hl, hm, hz, hd, hcell, hwz⟩
  · simp [Value.cells] at hcs
    obtain ⟨rfl, rfl, rfl⟩ := hcs
    exact ⟨[], ⟨by simp, .inl rfl, by simp⟩, rfl, by omega⟩
  · simp [Value.cells] at hcs
    obtain ⟨rfl, rfl, rfl⟩ := hcs
    have hz' : zs.length = cap := by simpa using hz
    have h2 := Src.open_ (W := W) (b := W.heap.size) (A := some x) (L := len) (C := cap) (Z := zs) hl hz' hwz (fun h => by cases h) (fun a' ha c hc => by
      injection ha with ha
      subst ha
      exact hcell c (by rw [hz']; exact hc)) (Nat.le_refl _)
    exact ⟨bytesAt zs len, h2.1, h2.2, by unfold maxLen at hm; exact hm⟩
end Go.Proofs.YtcpjfdaacnkcnaaDoor
