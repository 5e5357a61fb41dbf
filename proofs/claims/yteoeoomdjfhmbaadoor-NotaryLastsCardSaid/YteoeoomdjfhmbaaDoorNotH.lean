/-
  What came in: secrets, steps and payments, read off the arguments; the table of the constants, off what the row lists.
-/
import Derived.Test.YteoeoomdjfhmbaaDoorCards
import Derived.Test.YteoeoomdjfhmbaaDoorTie
import Derived.Test.YteoeoomdjfhmbaaDoorNotF
import Derived.ProofKit
import Derived.OpenShut
import Derived.ChangeOld
import Derived.SizedLaws
import Derived.Deep.Matrix
import Derived.Deep.DeepHandedRow
import Derived.Lib.LaidTab
namespace Go.Proofs.YteoeoomdjfhmbaaDoor
open Go.ChangeShapes Go.WideShapes Go.ChangeAt Go.RowKit Go.Deep
set_option linter.unusedVariables false

theorem own : ownKnob Tryd.prog.godebug = none := by kernel_rfl
theorem gTab : Tryd.prog.globalNamed "tollhouse/mill.roundWords" = some 1 := by kernel_rfl
theorem gTabType : (Tryd.prog.globals[1]?).map (·.type) = some 135 := by kernel_rfl
theorem cells74 : Tryd.prog.cellsOf 135 = 64 := by kernel_rfl
theorem cells61 : Tryd.prog.cellsOf 102 = 1 := by kernel_rfl
/-- The constants, as the row lists them. -/
def kwsI : List Int := kws.map fun (x : Nat) => (x : Int)
theorem table {W : World} (h : laidMetH Tryd.prog Rows.notaryLastsRow.laid W) : Lib.TabIs Tryd.prog W "tollhouse/mill.roundWords" .u32 kwsI :=
  Lib.tabIs_of_head (rest := []) gTab gTabType Tryd.underlying135 Tryd.underlying102 cells61 cells74 h
theorem tab_of {W : World} (h : laidMetH Tryd.prog Rows.notaryLastsRow.laid W) : Tab W := by
  intro j v hv
  have hj : j < kwsI.length := by
    have := (List.getElem?_eq_some_iff.1 hv).1
    simpa [kwsI, w32_length] using this
  have h2 := (table h).cell gTab j hj
  rw [Nat.zero_add, ← hv]
  rw [h2]
  have hk : j < kws.length := by simpa [kwsI] using hj
  rw [w32_get kws j hk]
  simp [kwsI, List.getD, hk]

theorem choose_list {α : Type} (d : α) {P : Nat → α → Prop} (n : Nat) (h : ∀ i, i < n → ∃ x, P i x) : ∃ l : List α, l.length = n ∧ ∀ i, i < n → P i (l.getD i d) := by
  classical
  refine ⟨(List.range n).map fun i => if h1 : i < n then (h i h1).choose else d, by simp, fun i hi => ?_⟩
  have e : ((List.range n).map fun i => if h1 : i < n then (h i h1).choose else d).getD i d = (h i hi).choose := by simp [List.getD, hi]
  rw [e]
  exact (h i hi).choose_spec

section
variable {H : Type} {enc : TypeId × Value → H} {w : World} {base : Nat} {spare : Nat → Bool} {held : Bool}
theorem bytes_at (cs : List Value) (o : Nat) (hp : ∀ j, j < 32 → PartAt enc Tryd.prog w base spare held cs (o + j) 5) : ∃ s : List Nat, s.length = 32 ∧ (∀ x ∈ s, x < 256) ∧ ∀ j v, (w8 s)[j]? = some v → cs[o + j]? = some v := by
  have h0 : ∀ j, j < 32 → ∃ z : Nat, z < 256 ∧ cs[o + j]? = some (.int .u8 (z : Int)) := by
    intro j hj
    obtain ⟨z, hz, hw⟩ := (hp j hj).int Tryd.underlying5
    have hb := bounds_u8 hw
    exact ⟨z.toNat, by omega, by rw [hz, Int.toNat_of_nonneg hb.1]⟩
  obtain ⟨s, hl, hs⟩ := choose_list 0 32 h0
  refine ⟨s, hl, fun x hx => ?_, fun j v hv => ?_⟩
  · obtain ⟨i, hi, rfl⟩ := List.mem_iff_getElem.1 hx
    have := (hs i (by omega)).1
    simpa [List.getD, hi] using this
  · have hj : j < 32 := by
      have := (List.getElem?_eq_some_iff.1 hv).1
      rw [w8_length, hl] at this
      exact this
    rw [w8_get s j (by omega)] at hv
    rw [← hv]
    exact (hs j hj).2
def lsS : List (Nat × TypeId) := (List.range 32).map fun i => (i, 5)
def lsC : List (Nat × TypeId) := [(0, 24), (1, 3), (2, 24)] ++ ((List.range 32).map fun i => (3 + i, 5)) ++ [(35, 24)]
theorem flatS : flatR Tryd.prog 2 35 = lsS := by kernel_rfl
theorem flatC : flatR Tryd.prog 3 56 = lsC := by kernel_rfl
theorem cells35 : Tryd.prog.cellsOf 35 = 32 := by kernel_rfl
theorem cells56 : Tryd.prog.cellsOf 56 = 36 := by kernel_rfl

theorem openSecs {a : Option Addr} {len cap : Nat} {d : DataW H} {p : List MemPlace} (h : DataW.Trod enc Tryd.prog w base spare held 51 (.slice a len cap) d p) : ∃ ss, ss.length = len ∧ SecRow w a ss ∧ len ≤ maxLen := by
  obtain ⟨h1, h2, h3⟩ := open_flat 2 32 lsS Tryd.underlying51 cells35 (by omega) flatS ⟨5, .u8, by decide, Tryd.underlying5⟩ h
  rcases h1 with rfl | ⟨b, off, rfl, hb, hx⟩
  · exact ⟨[], rfl, ⟨.inl rfl, fun i hi => by simp at hi⟩, h2⟩
  · have each : ∀ i, i < len → ∃ s : List Nat, w.rangeAt b (off + i * 32) (w8 s) ∧ s.length = 32 ∧ ∀ x ∈ s, x < 256 := by
      intro i hi
      obtain ⟨cs, hc, hp⟩ := hx i hi
      obtain ⟨s, s1, s2, s3⟩ := bytes_at cs 0 (fun j hj => by rw [Nat.zero_add]; exact hp j 5 (List.mem_map.2 ⟨j, List.mem_range.2 hj, rfl⟩))
      exact ⟨s, fun j v hv => hc j v (by have := s3 j v hv; rwa [Nat.zero_add] at this), s1, s2⟩
    obtain ⟨ss, hl, hs⟩ := choose_list z32 len each
    exact ⟨ss, hl, ⟨.inr ⟨b, off, rfl, hb, fun i hi => (hs i (by omega)).1⟩, fun i hi => (hs i (by omega)).2⟩, h2⟩
theorem openStps {a : Option Addr} {len cap : Nat} {d : DataW H} {p : List MemPlace} (h : DataW.Trod enc Tryd.prog w base spare held 69 (.slice a len cap) d p) : ∃ ss, ss.length = len ∧ StpRow w a ss ∧ len ≤ maxLen := by
  obtain ⟨h1, h2, h3⟩ := open_flat 1 1 [(0, 5)] Tryd.underlying69 cells5 (by omega) (by kernel_rfl) ⟨5, .u8, by decide, Tryd.underlying5⟩ h
  rcases h1 with rfl | ⟨b, off, rfl, hb, hx⟩
  · exact ⟨[], rfl, ⟨.inl rfl, fun i hi => by simp at hi⟩, h2⟩
  · have each : ∀ i, i < len → ∃ s : Nat, w.cell? ⟨b, off + i, none⟩ = some (.int .u8 (s : Int)) ∧ s < 256 := by
      intro i hi
      obtain ⟨cs, hc, hp⟩ := hx i hi
      obtain ⟨z, hz, hw⟩ := (hp 0 5 (by simp)).int Tryd.underlying5
      have hb := bounds_u8 hw
      refine ⟨z.toNat, ?_, by omega⟩
      have := hc 0 _ hz
      rw [Nat.mul_one, Nat.add_zero] at this
      rw [this, Int.toNat_of_nonneg hb.1]
    obtain ⟨ss, hl, hs⟩ := choose_list 0 len each
    exact ⟨ss, hl, ⟨.inr ⟨b, off, rfl, hb, fun i hi => (hs i (by omega)).1⟩, fun i hi => (hs i (by omega)).2⟩, h2⟩
theorem openConds {a : Option Addr} {len cap : Nat} {d : DataW H} {p : List MemPlace} (h : DataW.Trod enc Tryd.prog w base spare held 23 (.slice a len cap) d p) : ∃ ss, ss.length = len ∧ CndRow w a ss ∧ len ≤ maxLen := by
  obtain ⟨h1, h2, h3⟩ := open_flat 3 36 lsC Tryd.underlying23 cells56 (by omega) flatC ⟨24, .u64, by decide, Tryd.underlying24⟩ h
  rcases h1 with rfl | ⟨b, off, rfl, hb, hx⟩
  · exact ⟨[], rfl, ⟨.inl rfl, fun i hi => by simp at hi⟩, h2⟩
  · have each : ∀ i, i < len → ∃ c : Cnd, w.rangeAt b (off + i * 36) c.cells ∧ c.h.length = 32 ∧ ∀ x ∈ c.h, x < 256 := by
      intro i hi
      obtain ⟨cs, hc, hp⟩ := hx i hi
      obtain ⟨z0, e0, _⟩ := (hp 0 24 (by decide)).int Tryd.underlying24
      obtain ⟨z1, e1, _⟩ := (hp 1 3 (by decide)).int Tryd.underlying3
      obtain ⟨z2, e2, _⟩ := (hp 2 24 (by decide)).int Tryd.underlying24
      obtain ⟨z3, e3, _⟩ := (hp 35 24 (by decide)).int Tryd.underlying24
      obtain ⟨s, s1, s2, s3⟩ := bytes_at cs 3 (fun j hj => hp (3 + j) 5 (by
        unfold lsC
        rw [List.mem_append, List.mem_append]
        exact .inl (.inr (List.mem_map.2 ⟨j, List.mem_range.2 hj, rfl⟩))))
      refine ⟨⟨z0, z1, z2, s, z3⟩, fun j v hv => hc j v ?_, s1, s2⟩
      change (ccells z0 z1 z2 s z3)[j]? = some v at hv
      unfold ccells at hv
      rcases Nat.lt_or_ge j 3 with hj | hj
      · rw [List.append_assoc, List.getElem?_append_left (by simpa using hj)] at hv
        rw [← hv]
        match j, hj with
        | 0, _ => exact e0
        | 1, _ => exact e1
        | 2, _ => exact e2
      · obtain ⟨k, rfl⟩ : ∃ k, j = 3 + k := ⟨j - 3, by omega⟩
        rw [List.append_assoc, List.getElem?_append_right (by simp)] at hv
        rw [show 3 + k - [Value.int IntKind.u64 z0, Value.int IntKind.i64 z1, Value.int IntKind.u64 z2].length = k by simp] at hv
        rcases Nat.lt_or_ge k 32 with hk | hk
        · rw [List.getElem?_append_left (by rw [w8_length, s1]; exact hk)] at hv
          exact s3 k v hv
        · rw [List.getElem?_append_right (by rw [w8_length, s1]; exact hk), w8_length, s1] at hv
          have hk0 : k = 32 := by
            have := (List.getElem?_eq_some_iff.1 hv).1
            simp at this
            omega
          subst hk0
          rw [← hv]
          exact e3
    obtain ⟨ss, hl, hs⟩ := choose_list cnd0 len each
    exact ⟨ss, hl, ⟨.inr ⟨b, off, rfl, hb, fun i hi => (hs i (by omega)).1⟩, fun i hi => (hs i (by omega)).2⟩, h2⟩
end
end Go.Proofs.YteoeoomdjfhmbaaDoor
