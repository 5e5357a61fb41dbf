/-
  Parts that came in, read off the argument; the table of the constants, off what the row lists.
  Bytes that came in, read off the argument.
  An array of 32 bytes that came in, read off the argument.
  A signature of 1024 bytes that came in, read off the argument.
  Arguments of zeros that fit (for 'there is an input that fits'), without working out 1024 cells one by one.
-/
import Derived.Test.YtkonokjhpddbfaaDoorCards
import Derived.Test.YtkonokjhpddbfaaDoorTie
import Derived.Test.YtkonokjhpddbfaaDoorGA
import Derived.ProofKit
import Derived.OpenShut
import Derived.ChangeOld
import Derived.SizedLaws
import Derived.Deep.Matrix
import Derived.Deep.DeepHandedRow
import Derived.Lib.LaidTab
import Derived.Test.YtkonokjhpddbfaaDoorGB
import Derived.Deep.Slices
namespace Go.Proofs.YtkonokjhpddbfaaDoor
open Go.ChangeShapes Go.WideShapes Go.ChangeAt Go.RowKit Go.Deep
set_option linter.unusedVariables false

theorem own : ownKnob Tryd.prog.godebug = none := by kernel_rfl
theorem laidOut : laidOutB Tryd.prog = true := by kernel_rfl
theorem gTab : Tryd.prog.globalNamed "tollhouse/mill.roundWords" = some 0 := by kernel_rfl
theorem gTabType : (Tryd.prog.globals[0]?).map (·.type) = some 174 := by kernel_rfl
theorem cells74 : Tryd.prog.cellsOf 174 = 64 := by kernel_rfl
theorem cells61 : Tryd.prog.cellsOf 38 = 1 := by kernel_rfl
theorem cells22 : Tryd.prog.cellsOf 30 = 1 := by kernel_rfl
theorem cells5 : Tryd.prog.cellsOf 5 = 1 := by kernel_rfl
theorem bytes5 : Tryd.prog.bytesOf 5 = 1 := by kernel_rfl
theorem bytes22 : Tryd.prog.bytesOf 30 = 24 := by kernel_rfl

/-- The constants, as the row lists them. -/
def kwsI : List Int := kws.map fun (x : Nat) => (x : Int)

theorem table {W : World} (h : laidMetH Tryd.prog Rows.millLogsRow.laid W) : Lib.TabIs Tryd.prog W "tollhouse/mill.roundWords" .u32 kwsI :=
  Lib.tabIs_of_head (rest := []) gTab gTabType Tryd.underlying174 Tryd.underlying38 cells61 cells74 h

theorem tab_of {W : World} (h : laidMetH Tryd.prog Rows.millLogsRow.laid W) : Tab W := by
  intro j v hv
  have hj : j < kwsI.length := by
    have := (List.getElem?_eq_some_iff.1 hv).1
    simpa [kwsI, w32_length] using this
  have h2 := (table h).cell gTab j hj
  rw [Nat.zero_add, ← hv]
  rw [h2]
  have hk : j < kws.length := by simpa [kwsI] using hj
  rw [w32_get kws j hk]
  simp [kwsI, List.getD, hk]

theorem weightsAll_mem {H : Type} {P : Program} {e : TypeId} : ∀ {l : List (DataW H)} {d : DataW H}, d ∈ l → ∀ n ∈ d.weights P e, n ∈ DataW.weightsAll P e l
  | d0 :: r, d, hd, n, hn => by
    simp only [DataW.weightsAll, List.mem_append]
    rcases List.mem_cons.1 hd with rfl | hd
    · exact .inl hn
    · exact .inr (weightsAll_mem hd n hn)

/-- A slice's bytes up to its length. -/
def bytesAt (Z : List Int) (L : Nat) : List Nat := (Z.take L).map Int.toNat

theorem Src.open_ {W : World} {b : Nat} {A : Option Addr} {L C : Nat} {Z : List Int} (hL : L ≤ C) (hZ : Z.length = C) (hw : ∀ n ∈ Z, (Lit.int .u8 n).wf = true) (hn : A = none → C = 0)
    (hc : ∀ a', A = some a' → ∀ c, c < C → W.cell? (a'.add c) = some (.int .u8 (Z.getD c 0))) (hb : W.heap.size ≤ b) : Src W b A C (bytesAt Z L) ∧ (bytesAt Z L).length = L := by
  have hlen : (bytesAt Z L).length = L := by simp [bytesAt]; omega
  refine ⟨⟨by omega, ?_, ?_⟩, hlen⟩
  · cases A with
    | none =>
      left
      have := hn rfl
      exact List.eq_nil_of_length_eq_zero (by omega)
    | some a =>
      rcases Nat.eq_zero_or_pos L with h0 | h0
      · exact .inl (List.eq_nil_of_length_eq_zero (by omega))
      · obtain ⟨g, off, spot⟩ := a
        have hspot : spot = none := by simpa [Addr.add] using World.cell?_spot (hc _ rfl 0 (by omega))
        subst hspot
        have hlt : g < W.heap.size := by
          have := World.block_lt_of_cell? _ _ (hc _ rfl 0 (by omega))
          rw [Addr.add_mid] at this
          exact this
        refine .inr ⟨g, off, rfl, hlt, by omega, fun i hi => ?_⟩
        have h1 := hc _ rfl i (by omega)
        rw [Addr.add_mid] at h1
        rw [h1]
        have hiZ : i < Z.length := by omega
        have hb2 := bounds_u8 (hw (Z[i]) (List.getElem_mem hiZ))
        congr 2
        have e1 : (bytesAt Z L).getD i 0 = (Z[i]).toNat := by
          simp [bytesAt, List.getD, hiZ, show i < L by omega]
        rw [e1]
        simp [List.getD, hiZ]
        omega
  · intro x hx
    simp only [bytesAt, List.mem_map] at hx
    obtain ⟨n, hn, rfl⟩ := hx
    have := bounds_u8 (hw n (List.mem_of_mem_take hn))
    omega

theorem openParts {H : Type} {enc : TypeId × Value → H} {W : World} {base : Nat} {held : Bool} {a : Option Addr} {len cap : Nat} {d : DataW H} {p : List MemPlace}
    (h : DataW.Trod enc Tryd.prog W base (fun _ => true) held 23 (.slice a len cap) d p) (hsz : ∀ n ∈ d.weights Tryd.prog 23, n ≤ reachBytes) : ∃ ps, Came W a len ps := by
  obtain ⟨fuel, hf⟩ := h
  rcases open_int_rows Tryd.underlying23 Tryd.underlying30 Tryd.underlying5 cells22 cells5 hf with ⟨hcs, _⟩ | ⟨x, l, c, A, L, C, Z, hcs, _, hl, hm, hd, hrow⟩
  · simp [Value.cells] at hcs
    obtain ⟨rfl, rfl, rfl⟩ := hcs
    exact ⟨[], ⟨.inl rfl⟩, rfl, by omega, by simp⟩
  · simp [Value.cells] at hcs
    obtain ⟨rfl, rfl, rfl⟩ := hcs
    have hd1 := (Prod.mk.inj hd).1
    subst hd1
    have hown : cap * 24 ≤ reachBytes := by
      have := hsz _ (by simp only [DataW.weights, Tryd.underlying23]; exact List.mem_cons_self ..)
      rw [bytes22] at this
      simp only [List.length_map, List.length_range] at this
      rw [show len + (cap - len) = cap by omega] at this
      exact this
    have heach : ∀ r, r < len → L r ≤ 140737488355328 := by
      intro r hr
      obtain ⟨_, h2, h3, h4, _, h6, _⟩ := hrow r (by omega)
      cases hA : A r with
      | none => have := h6 hA; omega
      | some a' =>
        have hmem : intRow .u8 (A r) (L r) (Z r) ∈ (List.range len).map fun r => intRow (H := H) .u8 (A r) (L r) (Z r) := List.mem_map.2 ⟨r, List.mem_range.2 hr, rfl⟩
        have hw : (Z r).length * 1 ∈ (intRow (H := H) .u8 (A r) (L r) (Z r)).weights Tryd.prog 30 := by
          rw [hA]
          simp only [intRow, DataW.weights, Tryd.underlying30, bytes5]
          refine List.mem_cons.2 (.inl ?_)
          simp [lits]
          omega
        have := hsz _ (by simp only [DataW.weights, Tryd.underlying23]; exact List.mem_cons.2 (.inr (List.mem_append.2 (.inl (weightsAll_mem hmem _ hw)))))
        simp only [reachBytes] at this
        omega
    have hsr : ∀ r, r < len → Src W W.heap.size (A r) (C r) (bytesAt (Z r) (L r)) ∧ (bytesAt (Z r) (L r)).length = L r := by
      intro r hr
      obtain ⟨_, h2, h3, h4, h5, h6, h7⟩ := hrow r (by omega)
      exact Src.open_ h2 h4 h5 h6 (fun a' ha c hc => (h7 a' ha).2 c hc) (Nat.le_refl _)
    refine ⟨(List.range len).map fun r => bytesAt (Z r) (L r), ⟨?_⟩, by simp, by simp only [reachBytes] at hown; omega, ?_⟩
    · rcases Nat.eq_zero_or_pos len with h0 | h0
      · subst h0; exact .inl rfl
      · obtain ⟨g, off, spot⟩ := x
        have hc0 := (hrow 0 (by omega)).1
        have hspot : spot = none := by simpa [Addr.add] using World.cell?_spot hc0
        subst hspot
        have hlt : g < W.heap.size := by
          have := World.block_lt_of_cell? _ _ hc0
          rw [Addr.add_mid] at this
          exact this
        refine .inr ⟨g, off, rfl, hlt, by omega, fun i hi => ?_⟩
        have hi' : i < len := by simpa using hi
        have e : ((List.range len).map fun r => bytesAt (Z r) (L r)).getD i [] = bytesAt (Z i) (L i) := by simp [List.getD, hi']
        rw [e]
        obtain ⟨h1, h2, h3, _⟩ := hrow i (by omega)
        rw [Addr.add_mid] at h1
        refine ⟨A i, C i, by rw [(hsr i hi').2]; exact h1, by unfold maxLen at h3; exact h3, (hsr i hi').1⟩
    · intro q hq
      obtain ⟨r, hr, rfl⟩ := List.mem_map.1 hq
      have hr' := List.mem_range.1 hr
      exact ⟨by rw [(hsr r hr').2]; exact heach r hr', (hsr r hr').1.lt⟩
end Go.Proofs.YtkonokjhpddbfaaDoor
namespace Go.Proofs.YtkonokjhpddbfaaDoor
open Go.ChangeShapes Go.WideShapes Go.ChangeAt Go.RowKit Go.Deep
set_option linter.unusedVariables false

theorem openBytes {H : Type} {enc : TypeId × Value → H} {W : World} {base : Nat} {held : Bool} {a : Option Addr} {len cap : Nat} {d : DataW H} {p : List MemPlace}
    (h : DataW.Trod enc Tryd.prog W base (fun _ => true) held 30 (.slice a len cap) d p) (hsz : ∀ n ∈ d.weights Tryd.prog 30, n ≤ reachBytes) : ∃ l, CameB W a cap len l := by
  obtain ⟨fuel, hf⟩ := h
  rcases open_ints Tryd.underlying30 Tryd.underlying5 cells5 hf with ⟨hcs, _⟩ | ⟨x, l, c, zs, hcs, _, hl, hm, hz, hd, hcell, hwz⟩
  · simp [Value.cells] at hcs
    obtain ⟨rfl, rfl, rfl⟩ := hcs
    exact ⟨[], ⟨by simp, .inl rfl, by simp⟩, rfl, by omega⟩
  · simp [Value.cells] at hcs
    obtain ⟨rfl, rfl, rfl⟩ := hcs
    have hz' : zs.length = cap := by simpa using hz
    have h2 := Src.open_ (W := W) (b := W.heap.size) (A := some x) (L := len) (C := cap) (Z := zs) hl hz' hwz (fun h => by cases h) (fun a' ha c hc => by
      injection ha with ha
      subst ha
      exact hcell c (by rw [hz']; exact hc)) (Nat.le_refl _)
    exact ⟨bytesAt zs len, h2.1, h2.2, by unfold maxLen at hm; exact hm⟩
end Go.Proofs.YtkonokjhpddbfaaDoor
namespace Go.Proofs.YtkonokjhpddbfaaDoor
open Go.ChangeShapes Go.WideShapes Go.ChangeAt Go.RowKit Go.Deep
set_option linter.unusedVariables false

theorem cells24 : Tryd.prog.cellsOf 29 = 32 := by kernel_rfl
set_option maxRecDepth 100000 in
theorem openSum {H : Type} {enc : TypeId × Value → H} {W : World} {base b0 : Nat} {held : Bool} {v : Value} {d : DataW H} {p : List MemPlace} (hv : Value.okWide Tryd.prog W .any b0 29 v)
    (h : DataW.Trod enc Tryd.prog W base (fun _ => true) held 29 v d p) : ∃ s : List Nat, v = .agg (w8 s).toArray ∧ s.length = 32 ∧ ∀ x ∈ s, x < 256 := by
  simp only [Value.okWide, Tryd.underlying29] at hv
  obtain ⟨cs, rfl, hcs, _⟩ := hv
  obtain ⟨fuel, hf⟩ := h
  have hcl : (Value.agg cs).cells.toList = cs.toList := rfl
  rw [hcl] at hf
  obtain ⟨xs, m', _, _, hlen, hxs, hel⟩ := DataW.trod_array Tryd.underlying29 hf
  rw [cells24] at hlen
  rw [cells5] at hel
  have num : ∀ j, j < 32 → ∃ z : Nat, z < 256 ∧ cs.toList[j]? = some (.int .u8 (z : Int)) := by
    intro j hj
    have h1 := hel j hj
    rw [List.getElem?_eq_getElem (by omega)] at h1
    obtain ⟨z, e, _, hw⟩ := DataW.trod_int Tryd.underlying5 h1
    have h2 := congrArg (·[0]?) e
    have h3 : cs.toList[j]? = some (.int .u8 z) := by simpa using h2
    have hb := bounds_u8 hw
    exact ⟨z.toNat, by omega, by rw [h3, Int.toNat_of_nonneg hb.1]⟩
  have hl2 : (cs.toList.map fun v => (intOf v).toNat).length = 32 := by simpa using hlen
  refine ⟨cs.toList.map fun v => (intOf v).toNat, ?_, hl2, ?_⟩
  · congr 1
    apply Array.ext'
    apply List.ext_getElem?
    intro j
    rcases Nat.lt_or_ge j 32 with hj | hj
    · obtain ⟨z, hz, hc⟩ := num j hj
      rw [hc]
      simp only [w8, List.getElem?_map, hc, Option.map_some, intOf, Int.toNat_natCast]
    · rw [List.getElem?_eq_none (by omega), List.getElem?_eq_none (by simp only [w8_length]; omega)]
  · intro x hx
    obtain ⟨v, hv, rfl⟩ := List.mem_map.1 hx
    obtain ⟨j, hj, he⟩ := List.mem_iff_getElem.1 hv
    obtain ⟨z, hz, hc⟩ := num j (by omega)
    rw [List.getElem?_eq_getElem hj, he] at hc
    injection hc with hc
    subst hc
    simpa [intOf] using hz
end Go.Proofs.YtkonokjhpddbfaaDoor
namespace Go.Proofs.YtkonokjhpddbfaaDoor
open Go.ChangeShapes Go.WideShapes Go.ChangeAt Go.RowKit Go.Deep
set_option linter.unusedVariables false

theorem cells48 : Tryd.prog.cellsOf 48 = 16 := by kernel_rfl
theorem cells49 : Tryd.prog.cellsOf 49 = 512 := by kernel_rfl
theorem cells51 : Tryd.prog.cellsOf 51 = 1024 := by kernel_rfl
section
variable {H : Type} {enc : TypeId × Value → H} {W : World} {base fuel : Nat} {spare : Nat → Bool} {held : Bool} {cs : List Value} {x : DataW H × List MemPlace}
def BytesAt (cs : List Value) (n : Nat) : Prop := cs.length = n ∧ ∀ j, j < n → ∃ z : Nat, z < 256 ∧ cs[j]? = some (.int .u8 (z : Int))
theorem piece_bytes (h : DataW.trod enc Tryd.prog W base spare held fuel 48 cs = some x) : BytesAt cs 16 := by
  obtain ⟨xs, m', _, _, hlen, hxs, hel⟩ := DataW.trod_array Tryd.underlying48 h
  rw [cells48] at hlen
  rw [cells5] at hel
  refine ⟨hlen, fun j hj => ?_⟩
  have h1 := hel j hj
  rw [List.getElem?_eq_getElem (by omega)] at h1
  obtain ⟨z, e, _, hw⟩ := DataW.trod_int Tryd.underlying5 h1
  have h2 := congrArg (·[0]?) e
  have h3 : cs[j]? = some (.int .u8 z) := by simpa using h2
  have hb := bounds_u8 hw
  exact ⟨z.toNat, by omega, by rw [h3, Int.toNat_of_nonneg hb.1]⟩
theorem row_bytes (h : DataW.trod enc Tryd.prog W base spare held fuel 49 cs = some x) : BytesAt cs 512 := by
  obtain ⟨xs, m', _, _, hlen, hxs, hel⟩ := DataW.trod_array Tryd.underlying49 h
  rw [cells49] at hlen
  rw [cells48] at hel
  refine ⟨hlen, fun j hj => ?_⟩
  have h1 := hel (j / 16) (by omega)
  rw [List.getElem?_eq_getElem (by omega)] at h1
  obtain ⟨z, hz, hc⟩ := (piece_bytes h1).2 (j % 16) (by omega)
  refine ⟨z, hz, ?_⟩
  rw [List.getElem?_take, if_pos (by omega), List.getElem?_drop, show j / 16 * 16 + j % 16 = j by omega] at hc
  exact hc
theorem sig_bytes (h : DataW.trod enc Tryd.prog W base spare held fuel 51 cs = some x) : BytesAt cs 1024 := by
  obtain ⟨xs, m, _, _, hlen, hxs, hf⟩ := DataW.trod_struct Tryd.underlying51 h
  rw [cells51] at hlen
  have hx2 : xs.length = 2 := hxs
  have f0 : DataW.trod enc Tryd.prog W base spare held m 49 ((cs.drop 0).take (Tryd.prog.cellsOf 49)) = xs[0]? := hf 0 _ rfl
  have f1 : DataW.trod enc Tryd.prog W base spare held m 49 ((cs.drop 512).take (Tryd.prog.cellsOf 49)) = xs[1]? := hf 1 _ rfl
  rw [cells49, List.getElem?_eq_getElem (by omega)] at f0 f1
  refine ⟨hlen, fun j hj => ?_⟩
  rcases Nat.lt_or_ge j 512 with h1 | h1
  · obtain ⟨z, hz, hc⟩ := (row_bytes f0).2 j h1
    rw [List.getElem?_take, if_pos h1, List.getElem?_drop, Nat.zero_add] at hc
    exact ⟨z, hz, hc⟩
  · obtain ⟨z, hz, hc⟩ := (row_bytes f1).2 (j - 512) (by omega)
    rw [List.getElem?_take, if_pos (by omega), List.getElem?_drop, show 512 + (j - 512) = j by omega] at hc
    exact ⟨z, hz, hc⟩
theorem bytesAt_list {n : Nat} (h : BytesAt cs n) : ∃ S : List Nat, cs = w8 S ∧ S.length = n ∧ ∀ x ∈ S, x < 256 := by
  refine ⟨cs.map fun v => (intOf v).toNat, ?_, by simpa using h.1, ?_⟩
  · apply List.ext_getElem?
    intro j
    rcases Nat.lt_or_ge j n with hj | hj
    · obtain ⟨z, hz, hc⟩ := h.2 j hj
      simp only [w8, List.getElem?_map, hc, Option.map_some, intOf, Int.toNat_natCast]
    · rw [List.getElem?_eq_none (by rw [h.1]; omega), List.getElem?_eq_none (by simp only [w8_length, List.length_map]; rw [h.1]; omega)]
  · intro x hx
    obtain ⟨v, hv, rfl⟩ := List.mem_map.1 hx
    obtain ⟨j, hj, he⟩ := List.mem_iff_getElem.1 hv
    obtain ⟨z, hz, hc⟩ := h.2 j (by rw [← h.1]; exact hj)
    rw [List.getElem?_eq_getElem hj, he] at hc
    injection hc with hc
    subst hc
    simpa [intOf] using hz
end
set_option maxRecDepth 100000 in
theorem openSig {H : Type} {enc : TypeId × Value → H} {W : World} {base b0 : Nat} {held : Bool} {v : Value} {d : DataW H} {p : List MemPlace} (hv : Value.okWide Tryd.prog W .any b0 51 v)
    (h : DataW.Trod enc Tryd.prog W base (fun _ => true) held 51 v d p) : ∃ S : List Nat, v = .agg (w8 S).toArray ∧ S.length = 1024 ∧ ∀ x ∈ S, x < 256 := by
  simp only [Value.okWide, Tryd.underlying51] at hv
  obtain ⟨cs, rfl, _⟩ := hv
  obtain ⟨fuel, hf⟩ := h
  have hcl : (Value.agg cs).cells.toList = cs.toList := rfl
  rw [hcl] at hf
  obtain ⟨S, hS, h1, h2⟩ := bytesAt_list (sig_bytes hf)
  exact ⟨S, by rw [← hS], h1, h2⟩
end Go.Proofs.YtkonokjhpddbfaaDoor
namespace Go.Proofs.YtkonokjhpddbfaaDoor
open Go.ChangeShapes Go.WideShapes Go.ChangeAt Go.RowKit Go.Deep
set_option linter.unusedVariables false

theorem cell_ok (W : World) : Cell.okWideB Tryd.prog W 5 (.int .u8 0) = true := by kernel_rfl
theorem ct51 : Tryd.prog.cellTypes Tryd.prog.depth 51 = some (List.replicate 1024 5) := by kernel_rfl
theorem ct29 : Tryd.prog.cellTypes Tryd.prog.depth 29 = some (List.replicate 32 5) := by kernel_rfl
theorem row_ok (W : World) (t n : Nat) (hn : 0 < n) (ht : Tryd.prog.cellTypes Tryd.prog.depth t = some (List.replicate n 5)) : Cell.okWideRowB Tryd.prog W t (w8 (List.replicate n 0)).toArray = true := by
  unfold Cell.okWideRowB
  rw [ht]
  have hs : (w8 (List.replicate n 0)).toArray.size = n := by rw [List.size_toArray, w8_length, List.length_replicate]
  simp only [hs, List.length_replicate, Nat.mod_self, Bool.and_eq_true, List.all_eq_true, List.mem_range]
  refine ⟨rfl, fun i hi => ?_⟩
  have e1 : (w8 (List.replicate n 0)).toArray[i]? = some (.int .u8 0) := by
    rw [List.getElem?_toArray, w8_get _ _ (by rw [List.length_replicate]; exact hi)]
    simp [List.getD, hi]
  have e2 : (List.replicate n 5)[i % n]? = some 5 := by
    rw [List.getElem?_replicate, if_pos (Nat.mod_lt _ hn)]
  rw [e1, e2]
  exact cell_ok W
theorem sig_ok (W : World) : Value.okWideB Tryd.prog W 51 (.agg (w8 (List.replicate 1024 0)).toArray) = true := by
  unfold Value.okWideB
  rw [Tryd.underlying51]
  simp only [Bool.and_eq_true, beq_iff_eq]
  exact ⟨by rw [List.size_toArray, w8_length, List.length_replicate, cells51], row_ok W 51 1024 (by omega) ct51⟩
theorem sum_ok (W : World) : Value.okWideB Tryd.prog W 29 (.agg (w8 (List.replicate 32 0)).toArray) = true := by
  unfold Value.okWideB
  rw [Tryd.underlying29]
  simp only [Bool.and_eq_true, beq_iff_eq]
  exact ⟨by rw [List.size_toArray, w8_length, List.length_replicate]; kernel_rfl, row_ok W 29 32 (by omega) ct29⟩
/-- Two arguments that fit, of a function with two parameters. -/
theorem in_ok2 (W : World) (f : FuncId) (fn : Func) (v0 v1 : Value) (t0 t1 : TypeId) (hf : Tryd.prog.funcs[f]? = some fn) (hp : fn.params = #[t0, t1]) (hi : (Tryd.prog.inits.idxOf? f).isNone = true) (hb : fn.body.isSome = true) (ho : (!fn.ours) = true) (hn : (fn.nfree == 0) = true)
    (h0 : Value.okWideB Tryd.prog W t0 v0 = true) (h1 : Value.okWideB Tryd.prog W t1 v1 = true) : Input.okWideB Tryd.prog W f ⟨#[], #[v0, v1], []⟩ = true := by
  unfold Input.okWideB
  rw [hf]
  simp only [Bool.and_eq_true]
  refine ⟨⟨⟨rfl, rfl⟩, hi⟩, ⟨⟨⟨hb, ho⟩, hn⟩, by rw [hp]; rfl⟩, ?_⟩
  rw [hp]
  simp only [List.all_eq_true, List.mem_range]
  intro j hj
  have hj2 : j < 2 := hj
  match j, hj2 with
  | 0, _ => exact h0
  | 1, _ => exact h1
end Go.Proofs.YtkonokjhpddbfaaDoor
