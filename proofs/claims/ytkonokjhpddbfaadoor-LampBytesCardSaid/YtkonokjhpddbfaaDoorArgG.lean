/-
  A signature of 1024 bytes that came in, read off the argument.
-/
import Derived.Test.YtkonokjhpddbfaaDoorArgS
namespace Go.Proofs.YtkonokjhpddbfaaDoor
open Go.ChangeShapes Go.WideShapes Go.ChangeAt Go.RowKit Go.Deep
set_option linter.unusedVariables false

theorem cells48 : Tryd.prog.cellsOf 48 = 16 := by kernel_rfl
theorem cells49 : Tryd.prog.cellsOf 49 = 512 := by kernel_rfl
theorem cells51 : Tryd.prog.cellsOf 51 = 1024 := by kernel_rfl
section
variable {H : Type} {enc : TypeId × Value → H} {W : World} {base fuel : Nat} {spare : Nat → Bool} {held : Bool} {cs : List Value} {x : DataW H × List MemPlace}
def BytesAt (cs : List Value) (n : Nat) : Prop := cs.length = n ∧ ∀ j, j < n → ∃ z : Nat, z < 256 ∧ cs[j]? = some (.int .u8 (z : Int))
theorem piece_bytes (h : DataW.trod enc Tryd.prog W base spare held fuel 48 cs = some x) : BytesAt cs 16 := by
  obtain ⟨xs, m', _, _, hlen, hxs, hel⟩ := DataW.trod_array Tryd.underlying48 h
  rw [cells48] at hlen
  rw [cells5] at hel
  refine ⟨hlen, fun j hj => ?_⟩
  have h1 := hel j hj
  rw [List.getElem?_eq_getElem (by omega)] at h1
  obtain ⟨z, e, _, hw⟩ := DataW.trod_int Tryd.underlying5 h1
  have h2 := congrArg (·[0]?) e
  have h3 : cs[j]? = some (.int .u8 z) := by simpa using h2
  have hb := bounds_u8 hw
  exact ⟨z.toNat, by omega, by rw [h3, Int.toNat_of_nonneg hb.1]⟩
theorem row_bytes (h : DataW.trod enc Tryd.prog W base spare held fuel 49 cs = some x) : BytesAt cs 512 := by
  obtain ⟨xs, m', _, _, hlen, hxs, hel⟩ := DataW.trod_array Tryd.underlying49 h
  rw [cells49] at hlen
  rw [cells48] at hel
  refine ⟨hlen, fun j hj => ?_⟩
  have h1 := hel (j / 16) (by omega)
  rw [List.getElem?_eq_getElem (by omega)] at h1
  obtain ⟨z, hz, hc⟩ := (piece_bytes h1).2 (j % 16) (by omega)
  refine ⟨z, hz, ?_⟩
  rw [List.getElem?_take, if_pos (by omega), List.getElem?_drop, show j / 16 * 16 + j % 16 = j by omega] at hc
  exact hc
theorem sig_bytes (h : DataW.trod enc Tryd.prog W base spare held fuel 51 cs = some x) : BytesAt cs 1024 := by
  obtain ⟨xs, m, _, _, hlen, hxs, hf⟩ := DataW.trod_struct Tryd.underlying51 h
  rw [cells51] at hlen
  have hx2 : xs.length = 2 := hxs
  have f0 : DataW.trod enc Tryd.prog W base spare held m 49 ((cs.drop 0).take (Tryd.prog.cellsOf 49)) = xs[0]? := hf 0 _ rfl
  have f1 : DataW.trod enc Tryd.prog W base spare held m 49 ((cs.drop 512).take (Tryd.prog.cellsOf 49)) = xs[1]? := hf 1 _ rfl
  rw [cells49, List.getElem?_eq_getElem (by omega)] at f0 f1
  refine ⟨hlen, fun j hj => ?_⟩
  rcases Nat.lt_or_ge j 512 with h1 | h1
  · obtain ⟨z, hz, hc⟩ := (row_bytes f0).2 j h1
    rw [List.getElem?_take, if_pos h1, List.getElem?_drop, Nat.zero_add] at hc
    exact ⟨z, hz, hc⟩
  · obtain ⟨z, hz, hc⟩ := (row_bytes f1).2 (j - 512) (by omega)
    rw [List.getElem?_take, if_pos (by omega), List.getElem?_drop, show 512 + (j - 512) = j by omega] at hc
    exact ⟨z, hz, hc⟩
theorem bytesAt_list {n : Nat} (h : BytesAt cs n) : ∃ S : List Nat, cs = w8 S ∧ S.length = n ∧ ∀ x ∈ S, x < 256 := by
  refine ⟨cs.map fun v => (intOf v).toNat, ?_, by simpa using h.1, ?_⟩
  · apply List.ext_getElem?
    intro j
    rcases Nat.lt_or_ge j n with hj | hj
    · obtain ⟨z, hz, hc⟩ := h.2 j hj
      simp only [w8, List.getElem?_map, hc, Option.map_some, intOf, Int.toNat_natCast]
    · rw [List.getElem?_eq_none (by rw [h.1]; omega), List.getElem?_eq_none (by simp only [w8_length, List.length_map]; rw [h.1]; omega)]
  · intro x hx
    obtain ⟨v, hv, rfl⟩ := List.mem_map.1 hx
    obtain ⟨j, hj, he⟩ := List.mem_iff_getElem.1 hv
    obtain ⟨z, hz, hc⟩ := h.2 j (by rw [← h.1]; exact hj)
    rw [List.getElem?_eq_getElem hj, he] at hc
    injection hc with hc
    subst hc
    simpa [intOf] using hz
end
set_option maxRecDepth 100000 in
theorem openSig {H : Type} {enc : TypeId × Value → H} {W : World} {base b0 : Nat} {held : Bool} {v : Value} {d : DataW H} {p : List MemPlace} (hv : Value.okWide Tryd.prog W .any b0 51 v)
    (h : DataW.Trod enc Tryd.prog W base (fun _ => true) held 51 v d p) : ∃ S : List Nat, v = .agg (w8 S).toArray ∧ S.length = 1024 ∧ ∀ x ∈ S, x < 256 := by
  simp only [Value.okWide, Tryd.underlying51] at hv
  obtain ⟨cs, rfl, _⟩ := hv
  obtain ⟨fuel, hf⟩ := h
  have hcl : (Value.agg cs).cells.toList = cs.toList := rfl
  rw [hcl] at hf
  obtain ⟨S, hS, h1, h2⟩ := bytesAt_list (sig_bytes hf)
  exact ⟨S, by rw [← hS], h1, h2⟩
end Go.Proofs.YtkonokjhpddbfaaDoor
