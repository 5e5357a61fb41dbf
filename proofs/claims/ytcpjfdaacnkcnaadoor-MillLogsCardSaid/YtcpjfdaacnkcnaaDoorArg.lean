/-
  Parts that came in, read off the argument; the table of the constants, off what the row lists.
-/
import Derived.Test.YtcpjfdaacnkcnaaDoorCards
import Derived.Test.YtcpjfdaacnkcnaaDoorTie
import Derived.Test.YtcpjfdaacnkcnaaDoorCame
import Derived.ProofKit
import Derived.OpenShut
import Derived.ChangeOld
import Derived.SizedLaws
import Derived.Deep.Matrix
import Derived.Deep.DeepHandedRow
import Derived.Lib.LaidTab
namespace Go.Proofs.YtcpjfdaacnkcnaaDoor
open Go.ChangeShapes Go.WideShapes Go.ChangeAt Go.RowKit Go.Deep
set_option linter.unusedVariables false

theorem own : ownKnob Tryd.prog.godebug = none := by kernel_rfl
theorem laidOut : laidOutB Tryd.prog = true := by kernel_rfl
theorem gTab : Tryd.prog.globalNamed "tollhouse/mill.roundWords" = some 0 := by kernel_rfl
theorem gTabType : (Tryd.prog.globals[0]?).map (·.type) = some 74 := by kernel_rfl
theorem cells74 : Tryd.prog.cellsOf 74 = 64 := by kernel_rfl
theorem cells61 : Tryd.prog.cellsOf 61 = 1 := by kernel_rfl
theorem cells22 : Tryd.prog.cellsOf 22 = 1 := by kernel_rfl
theorem cells5 : Tryd.prog.cellsOf 5 = 1 := by kernel_rfl
theorem bytes5 : Tryd.prog.bytesOf 5 = 1 := by kernel_rfl
theorem bytes22 : Tryd.prog.bytesOf 22 = 24 := by kernel_rfl

/-- The constants, as the row lists them. -/
def kwsI : List Int := kws.map fun (x : Nat) => (x : Int)

theorem table {W : World} (h : laidMetH Tryd.prog Rows.millGoesRow.laid W) : Lib.TabIs Tryd.prog W "tollhouse/mill.roundWords" .u32 kwsI :=
  Lib.tabIs_of_head (rest := []) gTab gTabType Tryd.underlying74 Tryd.underlying61 cells61 cells74 h

theorem tab_of {W : World} (h : laidMetH Tryd.prog Rows.millGoesRow.laid W) : Tab W := by
  intro j v hv
  have hj : j < kwsI.length := by
    have := (List.getElem?_eq_some_iff.1 hv).1
    simpa [kwsI, w32_length] using this
  have h2 := (table h).cell gTab j hj
  rw [Nat.zero_add, ← hv]
  rw [h2]
  have hk : j < kws.length := by simpa [kwsI] using hj
  rw [w32_get kws j hk]
  simp [kwsI, List.getD, hk]

theorem weightsAll_mem {H : Type} {P : Program} {e : TypeId} : ∀ {l : List (DataW H)} {d : DataW H}, d ∈ l → ∀ n ∈ d.weights P e, n ∈ DataW.weightsAll P e l
  | d0 :: r, d, hd, n, hn => by
    simp only [DataW.weightsAll, List.mem_append]
    rcases List.mem_cons.1 hd with rfl | hd
    · exact .inl hn
    · exact .inr (weightsAll_mem hd n hn)

/-- A slice's bytes up to its length. -/
def bytesAt (Z : List Int) (L : Nat) : List Nat := (Z.take L).map Int.toNat

theorem Src.open_ {W : World} {b : Nat} {A : Option Addr} {L C : Nat} {Z : List Int} (hL : L ≤ C) (hZ : Z.length = C) (hw : ∀ n ∈ Z, (Lit.int .u8 n).wf = true) (hn : A = none → C = 0)
    (hc : ∀ a', A = some a' → ∀ c, c < C → W.cell? (a'.add c) = some (.int .u8 (Z.getD c 0))) (hb : W.heap.size ≤ b) : Src W b A C (bytesAt Z L) ∧ (bytesAt Z L).length = L := by
  have hlen : (bytesAt Z L).length = L := by simp [bytesAt]; omega
  refine ⟨⟨by omega, ?_, ?_⟩, hlen⟩
  · cases A with
    | none =>
      left
      have := hn rfl
      exact List.eq_nil_of_length_eq_zero (by omega)
    | some a =>
      rcases Nat.eq_zero_or_pos L with h0 | h0
      · exact .inl (List.eq_nil_of_length_eq_zero (by omega))
      · obtain ⟨g, off, spot⟩ := a
        have hspot : spot = none := by simpa [Addr.add] using World.cell?_spot (hc _ rfl 0 (by omega))
        subst hspot
        have hlt : g < W.heap.size := by
          have := World.block_lt_of_cell? _ _ (hc _ rfl 0 (by omega))
          rw [Addr.add_mid] at this
          exact this
        refine .inr ⟨g, off, rfl, hlt, by omega, fun i hi => ?_⟩
        have h1 := hc _ rfl i (by omega)
        rw [Addr.add_mid] at h1
        rw [h1]
        have hiZ : i < Z.length := by omega
        have hb2 := bounds_u8 (hw (Z[i]) (List.getElem_mem hiZ))
        congr 2
        have e1 : (bytesAt Z L).getD i 0 = (Z[i]).toNat := by
          simp [bytesAt, List.getD, hiZ, show i < L by omega]
        rw [e1]
        simp [List.getD, hiZ]
        omega
  · intro x hx
    simp only [bytesAt, List.mem_map] at hx
    obtain ⟨n, hn, rfl⟩ := hx
    have := bounds_u8 (hw n (List.mem_of_mem_take hn))
    omega

theorem openParts {H : Type} {enc : TypeId × Value → H} {W : World} {base : Nat} {held : Bool} {a : Option Addr} {len cap : Nat} {d : DataW H} {p : List MemPlace}
    (h : DataW.Trod enc Tryd.prog W base (fun _ => true) held 32 (.slice a len cap) d p) (hsz : ∀ n ∈ d.weights Tryd.prog 32, n ≤ reachBytes) : ∃ ps, Came W a len ps := by
  obtain ⟨fuel, hf⟩ := h
  rcases open_int_rows Tryd.underlying32 Tryd.underlying22 Tryd.underlying5 cells22 cells5 hf with ⟨hcs, _⟩ | ⟨x, l, c, A, L, C, Z, hcs, _, hl, hm, hd, hrow⟩
  · simp [Value.cells] at hcs
    obtain ⟨rfl, rfl, rfl⟩ := hcs
    exact ⟨[], ⟨.inl rfl⟩, rfl, by omega, by simp⟩
  · simp [Value.cells] at hcs
    obtain ⟨rfl, rfl, rfl⟩ := hcs
    have hd1 := (Prod.mk.inj hd).1
    subst hd1
    have hown : cap * 24 ≤ reachBytes := by
      have := hsz _ (by simp only [DataW.weights, Tryd.underlying32]; exact List.mem_cons_self ..)
      rw [bytes22] at this
      simp only [List.length_map, List.length_range] at this
      rw [show len + (cap - len) = cap by omega] at this
      exact this
    have heach : ∀ r, r < len → L r ≤ 140737488355328 := by
      intro r hr
      obtain ⟨_, h2, h3, h4, _, h6, _⟩ := hrow r (by omega)
      cases hA : A r with
      | none => have := h6 hA; omega
      | some a' =>
        have hmem : intRow .u8 (A r) (L r) (Z r) ∈ (List.range len).map fun r => intRow (H := H) .u8 (A r) (L r) (Z r) := List.mem_map.2 ⟨r, List.mem_range.2 hr, rfl⟩
        have hw : (Z r).length * 1 ∈ (intRow (H := H) .u8 (A r) (L r) (Z r)).weights Tryd.prog 22 := by
          rw [hA]
          simp only [intRow, DataW.weights, Tryd.underlying22, bytes5]
          refine List.mem_cons.2 (.inl ?_)
          simp [lits]
          omega
        have := hsz _ (by simp only [DataW.weights, Tryd.underlying32]; exact List.mem_cons.2 (.inr (List.mem_append.2 (.inl (weightsAll_mem hmem _ hw)))))
        simp only [reachBytes] at this
        omega
    have hsr : ∀ r, r < len → Src W W.heap.size (A r) (C r) (bytesAt (Z r) (L r)) ∧ (bytesAt (Z r) (L r)).length = L r := by
      intro r hr
      obtain ⟨_, h2, h3, h4, h5, h6, h7⟩ := hrow r (by omega)
      exact Src.open_ h2 h4 h5 h6 (fun a' ha c hc => (h7 a' ha).2 c hc) (Nat.le_refl _)
    refine ⟨(List.range len).map fun r => bytesAt (Z r) (L r), ⟨?_⟩, by simp, by simp only [reachBytes] at hown; omega, ?_⟩
    · rcases Nat.eq_zero_or_pos len with h0 | h0
      · subst h0; exact .inl rfl
      · obtain ⟨g, off, spot⟩ := x
        have hc0 := (hrow 0 (by omega)).1
        have hspot : spot = none := by simpa [Addr.add] using World.cell?_spot hc0
        subst hspot
        have hlt : g < W.heap.size := by
          have := World.block_lt_of_cell? _ _ hc0
          rw [Addr.add_mid] at this
          exact this
        refine .inr ⟨g, off, rfl, hlt, by omega, fun i hi => ?_⟩
        have hi' : i < len := by simpa using hi
        have e : ((List.range len).map fun r => bytesAt (Z r) (L r)).getD i [] = bytesAt (Z i) (L i) := by simp [List.getD, hi']
        rw [e]
        obtain ⟨h1, h2, h3, _⟩ := hrow i (by omega)
        rw [Addr.add_mid] at h1
        refine ⟨A i, C i, by rw [(hsr i hi').2]; exact h1, by unfold maxLen at h3; exact h3, (hsr i hi').1⟩
    · intro q hq
      obtain ⟨r, hr, rfl⟩ := List.mem_map.1 hq
      have hr' := List.mem_range.1 hr
      exact ⟨by rw [(hsr r hr').2]; exact heach r hr', (hsr r hr').1.lt⟩
end Go.Proofs.YtcpjfdaacnkcnaaDoor
