/-
  An array of 32 bytes that came in, read off the argument.
-/
import Derived.Test.YtcpjfdaacnkcnaaDoorArgB
namespace Go.Proofs.YtcpjfdaacnkcnaaDoor
open Go.ChangeShapes Go.WideShapes Go.ChangeAt Go.RowKit Go.Deep
set_option linter.unusedVariables false

theorem cells24 : Tryd.prog.cellsOf 24 = 32 := by kernel_rfl
theorem openSum {H : Type} {enc : TypeId × Value → H} {W : World} {base b0 : Nat} {held : Bool} {v : Value} {d : DataW H} {p : List MemPlace} (hv : Value.okWide Tryd.prog W .any b0 24 v)
    (h : DataW.Trod enc Tryd.prog W base (fun _ => true) held 24 v d p) : ∃ s : List Nat, v = .agg (w8 s).toArray ∧ s.length = 32 ∧ ∀ x ∈ s, x < 256 := by
  simp only [Value.okWide, Tryd.underlying24] at hv
  obtain ⟨cs, rfl, hcs, _⟩ := hv
  obtain ⟨fuel, hf⟩ := h
  have hcl : (Value.agg cs).cells.toList = cs.toList := rfl
  rw [hcl] at hf
  obtain ⟨xs, m', _, _, hlen, hxs, hel⟩ := DataW.trod_array Tryd.underlying24 hf
  rw [cells24] at hlen
  rw [cells5] at hel
  have num : ∀ j, j < 32 → ∃ z : Nat, z < 256 ∧ cs.toList[j]? = some (.int .u8 (z : Int)) := by
    intro j hj
    have h1 := hel j hj
    rw [List.getElem?_eq_getElem (by omega)] at h1
    obtain ⟨z, e, _, hw⟩ := DataW.trod_int Tryd.underlying5 h1
    have h2 := congrArg (·[0]?) e
    have h3 : cs.toList[j]? = some (.int .u8 z) := by simpa using h2
    have hb := bounds_u8 hw
    exact ⟨z.toNat, by omega, by rw [h3, Int.toNat_of_nonneg hb.1]⟩
  have hl2 : (cs.toList.map fun v => (intOf v).toNat).length = 32 := by simpa using hlen
  refine ⟨cs.toList.map fun v => (intOf v).toNat, ?_, hl2, ?_⟩
  · congr 1
    apply Array.ext'
    apply List.ext_getElem?
    intro j
    rcases Nat.lt_or_ge j 32 with hj | hj
    · obtain ⟨z, hz, hc⟩ := num j hj
      rw [hc]
      simp only [w8, List.getElem?_map, hc, Option.map_some, intOf, Int.toNat_natCast]
    · rw [List.getElem?_eq_none (by omega), List.getElem?_eq_none (by simp only [w8_length]; omega)]
  · intro x hx
    obtain ⟨v, hv, rfl⟩ := List.mem_map.1 hx
    obtain ⟨j, hj, he⟩ := List.mem_iff_getElem.1 hv
    obtain ⟨z, hz, hc⟩ := num j (by omega)
    rw [List.getElem?_eq_getElem hj, he] at hc
    injection hc with hc
    subst hc
    simpa [intOf] using hz
end Go.Proofs.YtcpjfdaacnkcnaaDoor
