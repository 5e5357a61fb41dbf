/-
  Parts that came in, read off the argument; the table of the constants, off what the row lists.
  Bytes that came in, read off the argument.
  An array of 32 bytes that came in, read off the argument.
  A signature of 1024 bytes that came in, read off the argument.
  Arguments of zeros that fit (for 'there is an input that fits'), without working out 1024 cells one by one.
-/
import Derived.Test.YtkonokjhpddbfaaDoorCards
import Derived.Test.YtkonokjhpddbfaaDoorTie
import Derived.Test.YtkonokjhpddbfaaDoorGA
import Derived.ProofKit
import Derived.OpenShut
import Derived.ChangeOld
import Derived.SizedLaws
import Derived.Deep.Matrix
import Derived.Deep.DeepHandedRow
import Derived.Lib.LaidTab
import Derived.Test.YtkonokjhpddbfaaDoorGB
import Derived.Deep.Slices
namespace Go.Proofs.YtkonokjhpddbfaaDoor
open Go.ChangeShapes Go.WideShapes Go.ChangeAt Go.RowKit Go.Deep
set_option linter.unusedVariables false

theorem own : ownKnob Tryd.prog.godebug = none := by kernel_rfl
theorem laidOut : laidOutB Tryd.prog = true := by kernel_rfl
theorem gTab : Tryd.prog.globalNamed "tollhouse/mill.roundWords" = some 0 := by kernel_rfl
theorem gTabType : (Tryd.prog.globals[0]?).map (·.type) = some 174 := by kernel_rfl
theorem cells74 : Tryd.prog.cellsOf 174 = 64 := by kernel_rfl
theorem cells61 : Tryd.prog.cellsOf 38 = 1 := by kernel_rfl
theorem cells5 : Tryd.prog.cellsOf 5 = 1 := by kernel_rfl
/-- The constants, as the row lists them. -/
def kwsI : List Int := kws.map fun (x : Nat) => (x : Int)

theorem table {W : World} (h : laidMetH Tryd.prog Rows.millLogsRow.laid W) : Lib.TabIs Tryd.prog W "tollhouse/mill.roundWords" .u32 kwsI :=
  Lib.tabIs_of_head (rest := []) gTab gTabType Tryd.underlying174 Tryd.underlying38 cells61 cells74 h

theorem tab_of {W : World} (h : laidMetH Tryd.prog Rows.millLogsRow.laid W) : Tab W := by
  intro j v hv
  have hj : j < kwsI.length := by
    have := (List.getElem?_eq_some_iff.1 hv).1
    simpa [kwsI, w32_length] using this
  have h2 := (table h).cell gTab j hj
  rw [Nat.zero_add, ← hv]
  rw [h2]
  have hk : j < kws.length := by simpa [kwsI] using hj
  rw [w32_get kws j hk]
  simp [kwsI, List.getD, hk]

/-- A slice's bytes up to its length. -/
def bytesAt (Z : List Int) (L : Nat) : List Nat := (Z.take L).map Int.toNat

theorem Src.open_ {W : World} {b : Nat} {A : Option Addr} {L C : Nat} {Z : List Int} (hL : L ≤ C) (hZ : Z.length = C) (hw : ∀ n ∈ Z, (Lit.int .u8 n).wf = true) (hn : A = none → C = 0)
    (hc : ∀ a', A = some a' → ∀ c, c < C → W.cell? (a'.add c) = some (.int .u8 (Z.getD c 0))) (hb : W.heap.size ≤ b) : Src W b A C (bytesAt Z L) ∧ (bytesAt Z L).length = L := by
  have hlen : (bytesAt Z L).length = L := by simp [bytesAt]; omega
  refine ⟨⟨by omega, ?_, ?_⟩, hlen⟩
  · cases A with
    | none =>
      left
      have := hn rfl
      exact List.eq_nil_of_length_eq_zero (by omega)
    | some a =>
      rcases Nat.eq_zero_or_pos L with h0 | h0
      · exact .inl (List.eq_nil_of_length_eq_zero (by omega))
      · obtain ⟨g, off, spot⟩ := a
        have hspot : spot = none := by simpa [Addr.add] using World.cell?_spot (hc _ rfl 0 (by omega))
        subst hspot
        have hlt : g < W.heap.size := by
          have := World.block_lt_of_cell? _ _ (hc _ rfl 0 (by omega))
          rw [Addr.add_mid] at this
          exact this
        refine .inr ⟨g, off, rfl, hlt, by omega, fun i hi => ?_⟩
        have h1 := hc _ rfl i (by omega)
        rw [Addr.add_mid] at h1
        rw [h1]
        have hiZ : i < Z.length := by omega
        have hb2 := bounds_u8 (hw (Z[i]) (List.getElem_mem hiZ))
        congr 2
        have e1 : (bytesAt Z L).getD i 0 = (Z[i]).toNat := by
          simp [bytesAt, List.getD, hiZ, show i < L by omega]
        rw [e1]
        simp [List.getD, hiZ]
        omega
  · intro x hx
    simp only [bytesAt, List.mem_map] at hx
    obtain ⟨n, hn, rfl⟩ := hx
    have := bounds_u8 (hw n (List.mem_of_mem_take hn))
    omega

end Go.Proofs.YtkonokjhpddbfaaDoor
namespace Go.Proofs.YtkonokjhpddbfaaDoor
open Go.ChangeShapes Go.WideShapes Go.ChangeAt Go.RowKit Go.Deep
set_option linter.unusedVariables false

end Go.Proofs.YtkonokjhpddbfaaDoor
namespace Go.Proofs.YtkonokjhpddbfaaDoor
open Go.ChangeShapes Go.WideShapes Go.ChangeAt Go.RowKit Go.Deep
set_option linter.unusedVariables false

end Go.Proofs.YtkonokjhpddbfaaDoor
namespace Go.Proofs.YtkonokjhpddbfaaDoor
open Go.ChangeShapes Go.WideShapes Go.ChangeAt Go.RowKit Go.Deep
set_option linter.unusedVariables false

theorem cells48 : Tryd.prog.cellsOf 48 = 16 := by kernel_rfl
theorem cells49 : Tryd.prog.cellsOf 49 = 512 := by kernel_rfl
theorem cells51 : Tryd.prog.cellsOf 51 = 1024 := by kernel_rfl
section
variable {H : Type} {enc : TypeId × Value → H} {W : World} {base fuel : Nat} {spare : Nat → Bool} {held : Bool} {cs : List Value} {x : DataW H × List MemPlace}
def BytesAt (cs : List Value) (n : Nat) : Prop := cs.length = n ∧ ∀ j, j < n → ∃ z : Nat, z < 256 ∧ cs[j]? = some (.int .u8 (z : Int))
theorem piece_bytes (h : DataW.trod enc Tryd.prog W base spare held fuel 48 cs = some x) : BytesAt cs 16 := by
  obtain ⟨xs, m', _, _, hlen, hxs, hel⟩ := DataW.trod_array Tryd.underlying48 h
  rw [cells48] at hlen
  rw [cells5] at hel
  refine ⟨hlen, fun j hj => ?_⟩
  have h1 := hel j hj
  rw [List.getElem?_eq_getElem (by omega)] at h1
  obtain ⟨z, e, _, hw⟩ := DataW.trod_int Tryd.underlying5 h1
  have h2 := congrArg (·[0]?) e
  have h3 : cs[j]? = some (.int .u8 z) := by simpa using h2
  have hb := bounds_u8 hw
  exact ⟨z.toNat, by omega, by rw [h3, Int.toNat_of_nonneg hb.1]⟩
theorem row_bytes (h : DataW.trod enc Tryd.prog W base spare held fuel 49 cs = some x) : BytesAt cs 512 := by
  obtain ⟨xs, m', _, _, hlen, hxs, hel⟩ := DataW.trod_array Tryd.underlying49 h
  rw [cells49] at hlen
  rw [cells48] at hel
  refine ⟨hlen, fun j hj => ?_⟩
  have h1 := hel (j / 16) (by omega)
  rw [List.getElem?_eq_getElem (by omega)] at h1
  obtain ⟨z, hz, hc⟩ := (piece_bytes h1).2 (j % 16) (by omega)
  refine ⟨z, hz, ?_⟩
  rw [List.getElem?_take, if_pos (by omega), List.getElem?_drop, show j / 16 * 16 + j % 16 = j by omega] at hc
  exact hc
theorem sig_bytes (h : DataW.trod enc Tryd.prog W base spare held fuel 51 cs = some x) : BytesAt cs 1024 := by
  obtain ⟨xs, m, _, _, hlen, hxs, hf⟩ := DataW.trod_struct Tryd.underlying51 h
  rw [cells51] at hlen
  have hx2 : xs.length = 2 := hxs
  have f0 : DataW.trod enc Tryd.prog W base spare held m 49 ((cs.drop 0).take (Tryd.prog.cellsOf 49)) = xs[0]? := hf 0 _ rfl
  have f1 : DataW.trod enc Tryd.prog W base spare held m 49 ((cs.drop 512).take (Tryd.prog.cellsOf 49)) = xs[1]? := hf 1 _ rfl
  rw [cells49, List.getElem?_eq_getElem (by omega)] at f0 f1
  refine ⟨hlen, fun j hj => ?_⟩
  rcases Nat.lt_or_ge j 512 with h1 | h1
  · obtain ⟨z, hz, hc⟩ := (row_bytes f0).2 j h1
    rw [List.getElem?_take, if_pos h1, List.getElem?_drop, Nat.zero_add] at hc
    exact ⟨z, hz, hc⟩
  · obtain ⟨z, hz, hc⟩ := (row_bytes f1).2 (j - 512) (by omega)
    rw [List.getElem?_take, if_pos (by omega), List.getElem?_drop, show 512 + (j - 512) = j by omega] at hc
    exact ⟨z, hz, hc⟩
theorem bytesAt_list {n : Nat} (h : BytesAt cs n) : ∃ S : List Nat, cs = w8 S ∧ S.length = n ∧ ∀ x ∈ S, x < 256 := by
  refine ⟨cs.map fun v => (intOf v).toNat, ?_, by simpa using h.1, ?_⟩
  · apply List.ext_getElem?
    intro j
    rcases Nat.lt_or_ge j n with hj | hj
    · obtain ⟨z, hz, hc⟩ := h.2 j hj
      simp only [w8, List.getElem?_map, hc, Option.map_some, intOf, Int.toNat_natCast]
    · rw [List.getElem?_eq_none (by rw [h.1]; omega), List.getElem?_eq_none (by simp only [w8_length, List.length_map]; rw [h.1]; omega)]
  · intro x hx
    obtain ⟨v, hv, rfl⟩ := List.mem_map.1 hx
    obtain ⟨j, hj, he⟩ := List.mem_iff_getElem.1 hv
    obtain ⟨z, hz, hc⟩ := h.2 j (by rw [← h.1]; exact hj)
    rw [List.getElem?_eq_getElem hj, he] at hc
    injection hc with hc
    subst hc
    simpa [intOf] using hz
end
end Go.Proofs.YtkonokjhpddbfaaDoor
namespace Go.Proofs.YtkonokjhpddbfaaDoor
open Go.ChangeShapes Go.WideShapes Go.ChangeAt Go.RowKit Go.Deep
set_option linter.unusedVariables false

theorem cell_ok (W : World) : Cell.okWideB Tryd.prog W 5 (.int .u8 0) = true := by kernel_rfl
/-- Two arguments that fit, of a function with two parameters. -/
theorem in_ok2 (W : World) (f : FuncId) (fn : Func) (v0 v1 : Value) (t0 t1 : TypeId) (hf : Tryd.prog.funcs[f]? = some fn) (hp : fn.params = #[t0, t1]) (hi : (Tryd.prog.inits.idxOf? f).isNone = true) (hb : fn.body.isSome = true) (ho : (!fn.ours) = true) (hn : (fn.nfree == 0) = true)
    (h0 : Value.okWideB Tryd.prog W t0 v0 = true) (h1 : Value.okWideB Tryd.prog W t1 v1 = true) : Input.okWideB Tryd.prog W f ⟨#[], #[v0, v1], []⟩ = true := by
  unfold Input.okWideB
  rw [hf]
  simp only [Bool.and_eq_true]
  refine ⟨⟨⟨rfl, rfl⟩, hi⟩, ⟨⟨⟨hb, ho⟩, hn⟩, by rw [hp]; rfl⟩, ?_⟩
  rw [hp]
  simp only [List.all_eq_true, List.mem_range]
  intro j hj
  have hj2 : j < 2 := hj
  match j, hj2 with
  | 0, _ => exact h0
  | 1, _ => exact h1
end Go.Proofs.YtkonokjhpddbfaaDoor
