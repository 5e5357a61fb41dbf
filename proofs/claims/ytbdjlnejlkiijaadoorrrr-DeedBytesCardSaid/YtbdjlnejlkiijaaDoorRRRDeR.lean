/-
  What came in: states, wishes; the table of the constants, off what the row lists.
-/
import Derived.Test.YtbdjlnejlkiijaaDoorRRRCards
import Derived.Test.YtbdjlnejlkiijaaDoorRRRTie
import Derived.ProofKit
import Derived.OpenShut
import Derived.ChangeOld
import Derived.SizedLaws
import Derived.Deep.Matrix
import Derived.Deep.DeepHandedRow
import Derived.Lib.LaidTab
import Derived.Deep.Slices
import Derived.Test.YtbdjlnejlkiijaaDoorRRRChecked
import Derived.Test.YtbdjlnejlkiijaaDoorRRRFlat
import Derived.Test.YtbdjlnejlkiijaaDoorRRRDeQb
namespace Go.Proofs.YtbdjlnejlkiijaaDoorRRR
open Go.ChangeShapes Go.WideShapes Go.ChangeAt Go.RowKit Go.Deep
set_option linter.unusedVariables false

theorem own : ownKnob Tryd.prog.godebug = none := by kernel_rfl
theorem laidOut : laidOutB Tryd.prog = true := by kernel_rfl
theorem gTab : Tryd.prog.globalNamed "tollhouse/mill.roundWords" = some 0 := by kernel_rfl
theorem gTabType : (Tryd.prog.globals[0]?).map (·.type) = some 155 := by kernel_rfl
theorem cells74 : Tryd.prog.cellsOf 155 = 64 := by kernel_rfl
theorem cells61 : Tryd.prog.cellsOf 22 = 1 := by kernel_rfl
theorem cells5 : Tryd.prog.cellsOf 5 = 1 := by kernel_rfl
/-- The constants, as the row lists them. -/
def kwsI : List Int := kws.map fun (x : Nat) => (x : Int)

theorem table {W : World} (h : laidMetH Tryd.prog Rows.deedBytesRow.laid W) : Lib.TabIs Tryd.prog W "tollhouse/mill.roundWords" .u32 kwsI :=
  Lib.tabIs_of_head (rest := []) gTab gTabType Tryd.underlying155 Tryd.underlying22 cells61 cells74 h

theorem tab_of {W : World} (h : laidMetH Tryd.prog Rows.deedBytesRow.laid W) : Tab W := by
  intro j v hv
  have hj : j < kwsI.length := by
    have := (List.getElem?_eq_some_iff.1 hv).1
    simpa [kwsI, w32_length] using this
  have h2 := (table h).cell gTab j hj
  rw [Nat.zero_add, ← hv]
  rw [h2]
  have hk : j < kws.length := by simpa [kwsI] using hj
  rw [w32_get kws j hk]
  simp [kwsI, List.getD, hk]


theorem word_wf {x : Int} (h : (Lit.int .u64 x).wf = true) : Word x := by
  simp [Lit.wf, IntKind.min, IntKind.max, IntKind.signed, IntKind.bits] at h
  exact ⟨by omega, by omega⟩
theorem u32_wf {x : Int} (h : (Lit.int .u32 x).wf = true) : 0 ≤ x ∧ x ≤ 4294967295 := by
  simp [Lit.wf, IntKind.min, IntKind.max, IntKind.signed, IntKind.bits] at h
  exact ⟨by omega, by omega⟩
theorem u8_wf {x : Int} (h : (Lit.int .u8 x).wf = true) : 0 ≤ x ∧ x < 256 := by
  simp [Lit.wf, IntKind.min, IntKind.max, IntKind.signed, IntKind.bits] at h
  exact ⟨by omega, by omega⟩
/-- All that is known of a payment that came in. -/
def Cnd.Full (c : Cnd) : Prop := c.Ok ∧ CndW c ∧ CndB c
theorem cnd0_full : cnd0.Full := ⟨cnd0_ok, ⟨by decide, by decide, by decide⟩, fun x hx => by
  have : x = 0 := by simpa [cnd0, z32] using hx
  omega⟩
/-- A payment's parts, each with its place. -/
def LC : List (Nat × TypeId) := [(0, 23), (1, 3), (2, 23)] ++ ((List.range 32).map fun j => (3 + j, 5)) ++ [(35, 23)]
theorem LC_h {j : Nat} (hj : j < 32) : (3 + j, (5 : TypeId)) ∈ LC := by
  unfold LC
  simp only [List.mem_append, List.mem_map, List.mem_range]
  exact .inl (.inr ⟨j, hj, rfl⟩)
section
variable {H : Type} {enc : TypeId × Value → H} {W : World} {base : Nat} {spare : Nat → Bool} {held : Bool}
theorem cnd_parts {cs : List Value} {o : Nat} (hp : ∀ j u, (j, u) ∈ LC → PartAt enc Tryd.prog W base spare held cs (o + j) u) : ∃ c : Cnd, c.Full ∧ ∀ j v, c.cells[j]? = some v → cs[o + j]? = some v := by
  obtain ⟨z0, h0, w0⟩ := (hp 0 23 (by simp [LC])).int Tryd.underlying23
  obtain ⟨z1, h1, w1⟩ := (hp 1 3 (by simp [LC])).int Tryd.underlying3
  obtain ⟨z2, h2, w2⟩ := (hp 2 23 (by simp [LC])).int Tryd.underlying23
  obtain ⟨z3, h3, w3⟩ := (hp 35 23 (by simp [LC])).int Tryd.underlying23
  have each : ∀ j, ∃ z : Int, (0 ≤ z ∧ z < 256) ∧ (j < 32 → cs[o + (3 + j)]? = some (.int .u8 z)) := by
    intro j
    by_cases hj : j < 32
    · obtain ⟨z, hz, wz⟩ := (hp (3 + j) 5 (LC_h hj)).int Tryd.underlying5
      exact ⟨z, u8_wf wz, fun _ => hz⟩
    · exact ⟨0, by omega, fun h => absurd h hj⟩
  obtain ⟨f, hf⟩ := Classical.axiomOfChoice each
  refine ⟨⟨z0, z1, z2, (List.range 32).map f, z3⟩, ⟨⟨word_wf w0, word_wf w2, by simp⟩, ⟨word_wf w0, word_wf w2, word_wf w3⟩, fun x hx => by obtain ⟨i, _, rfl⟩ := List.mem_map.1 hx; exact (hf i).1⟩, fun j v hv => ?_⟩
  unfold Cnd.cells at hv
  rw [List.append_assoc] at hv
  by_cases hj : j < 3
  · rw [List.getElem?_append_left (by simpa using hj)] at hv
    match j, hj, hv with
    | 0, _, hv => rw [← hv]; exact h0
    | 1, _, hv => rw [← hv]; exact h1
    | 2, _, hv => rw [← hv]; exact h2
  · rw [List.getElem?_append_right (by simp; omega)] at hv
    simp only [List.length_cons, List.length_nil] at hv
    by_cases hk : j < 35
    · rw [List.getElem?_append_left (by simp [u8s]; omega)] at hv
      have e := (hf (j - 3)).2 (by omega)
      rw [show 3 + (j - 3) = j by omega] at e
      rw [e, ← hv]
      simp [u8s, List.getElem?_range (show j - 3 < 32 by omega)]
    · rw [List.getElem?_append_right (by simp [u8s]; omega)] at hv
      simp only [u8s, List.length_map, List.length_range] at hv
      obtain hj35 | hj36 : j = 35 ∨ 35 < j := by omega
      · subst hj35; rw [← hv]; exact h3
      · rw [List.getElem?_eq_none (by simp; omega)] at hv; cases hv

theorem conds_of {a : Option Addr} {n : Nat} (h : FlatRow enc Tryd.prog W base spare held a 36 n LC) : ∃ l : List Cnd, l.length = n ∧ CRow W a l ∧ ∀ c ∈ l, c.Full := by
  have each : ∀ i, ∃ q : Cnd, q.Full ∧ (i < n → ∃ b off, a = some ⟨b, off, none⟩ ∧ b < W.heap.size ∧ ∀ j v, q.cells[j]? = some v → W.cell? ⟨b, off + i * 36 + j, none⟩ = some v) := by
    intro i
    by_cases hi : i < n
    · obtain ⟨b, off, ha, hb, cs, hc, hp⟩ := h.row hi
      obtain ⟨c, hok, hcs⟩ := cnd_parts (o := 0) (cs := cs) (fun j u hm => by rw [Nat.zero_add]; exact hp j u hm)
      exact ⟨c, hok, fun _ => ⟨b, off, ha, hb, fun j v hv => hc j v (by have := hcs j v hv; rwa [Nat.zero_add] at this)⟩⟩
    · exact ⟨cnd0, cnd0_full, fun h => absurd h hi⟩
  obtain ⟨f, hf⟩ := Classical.axiomOfChoice each
  refine ⟨(List.range n).map f, by simp, ⟨?_, fun e he => ?_⟩, fun e he => ?_⟩
  · rcases h.1 with h0 | ⟨b, off, ha, hb, _⟩
    · subst h0; exact .inl rfl
    · refine .inr ⟨b, off, ha, hb, fun i hi => ?_⟩
      have hi' : i < n := by simpa using hi
      obtain ⟨b', off', ha', _, h1⟩ := (hf i).2 hi'
      rw [ha] at ha'
      injection ha' with ha'
      injection ha' with e1 e2
      subst e1 e2
      simp only [List.getD, List.getElem?_map, List.getElem?_range hi', Option.map_some, Option.getD_some]
      exact h1
  · obtain ⟨i, _, rfl⟩ := List.mem_map.1 he
    exact (hf i).1.1
  · obtain ⟨i, _, rfl⟩ := List.mem_map.1 he
    exact (hf i).1

theorem flat30 : flatR Tryd.prog 4 30 = LC := by kernel_rfl
/-- A wish's parts. -/
def LO : List (Nat × TypeId) := [(0, 3), (1, 23)] ++ (LC.map fun q => (2 + q.1, q.2)) ++ [(38, 23)]
theorem flat32 : flatR Tryd.prog 4 32 = LO := by kernel_rfl
theorem LO_c {j u : Nat} (h : (j, u) ∈ LC) : (2 + j, u) ∈ LO := by
  unfold LO
  simp only [List.mem_append, List.mem_map]
  exact .inl (.inr ⟨(j, u), h, rfl⟩)
theorem op_parts {cs : List Value} (hp : ∀ j u, (j, u) ∈ LO → PartAt enc Tryd.prog W base spare held cs j u) : ∃ (k a : Int) (c : Cnd) (id : Int), c.Full ∧ Word a ∧ Word id ∧ ∀ (j : Nat) (v : Value), (opC k a c id)[j]? = some v → cs[j]? = some v := by
  obtain ⟨z0, h0, w0⟩ := (hp 0 3 (by simp [LO])).int Tryd.underlying3
  obtain ⟨z1, h1, w1⟩ := (hp 1 23 (by simp [LO])).int Tryd.underlying23
  obtain ⟨z2, h2, w2⟩ := (hp 38 23 (by simp [LO])).int Tryd.underlying23
  obtain ⟨c, hok, hc⟩ := cnd_parts (o := 2) (cs := cs) (fun j u hm => hp (2 + j) u (LO_c hm))
  refine ⟨z0, z1, c, z2, hok, word_wf w1, word_wf w2, fun j v hv => ?_⟩
  unfold opC at hv
  rw [List.append_assoc] at hv
  by_cases hj : j < 2
  · rw [List.getElem?_append_left (by simpa using hj)] at hv
    match j, hj, hv with
    | 0, _, hv => rw [← hv]; exact h0
    | 1, _, hv => rw [← hv]; exact h1
  · rw [List.getElem?_append_right (by simp; omega)] at hv
    simp only [List.length_cons, List.length_nil] at hv
    by_cases hk : j < 38
    · rw [List.getElem?_append_left (by rw [hok.1.len]; omega)] at hv
      have e := hc (j - 2) v hv
      rwa [show 2 + (j - 2) = j by omega] at e
    · rw [List.getElem?_append_right (by rw [hok.1.len]; omega), hok.1.len] at hv
      obtain h38 | h39 : j = 38 ∨ 38 < j := by omega
      · subst h38; rw [← hv]; exact h2
      · rw [List.getElem?_eq_none (by simp; omega)] at hv; cases hv
theorem list_of {cs ds : List Value} (hl : cs.length = ds.length) (h : ∀ (j : Nat) (v : Value), ds[j]? = some v → cs[j]? = some v) : cs = ds := by
  apply List.ext_getElem?
  intro j
  by_cases hj : j < ds.length
  · rw [h j _ (List.getElem?_eq_getElem hj), List.getElem?_eq_getElem hj]
  · rw [List.getElem?_eq_none (by omega), List.getElem?_eq_none (by omega)]

set_option maxRecDepth 100000 in
theorem openOp {v : Value} {d : DataW H} {p : List MemPlace} {b0 : Nat} (hv : Value.okWide Tryd.prog W .any b0 32 v) (h : DataW.Trod enc Tryd.prog W base spare held 32 v d p) :
    ∃ (k a : Int) (c : Cnd) (id : Int), v = .agg (opC k a c id).toArray ∧ c.Full ∧ Word a ∧ Word id := by
  simp only [Value.okWide, Tryd.underlying32] at hv
  obtain ⟨cs, rfl, _⟩ := hv
  obtain ⟨fuel, hf⟩ := h
  have hcl : (Value.agg cs).cells.toList = cs.toList := rfl
  rw [hcl] at hf
  have hl : cs.toList.length = 39 := by
    obtain ⟨_, _, _, _, hl, _⟩ := DataW.trod_struct Tryd.underlying32 hf
    rw [hl]; kernel_rfl
  obtain ⟨k, a, c, id, hok, ha, hid, hc⟩ := op_parts (cs := cs.toList) (fun j u hm => flat_part 4 32 _ _ _ hf j u (by rw [flat32]; exact hm))
  refine ⟨k, a, c, id, ?_, hok, ha, hid⟩
  have := list_of (by rw [hl, opC_len k a id hok.1]) hc
  rw [← this]

set_option maxRecDepth 100000 in
/-- A state that came in. -/
theorem openState {v : Value} {d : DataW H} {p : List MemPlace} {b0 : Nat} (hv : Value.okWide Tryd.prog W .any b0 27 v) (h : DataW.Trod enc Tryd.prog W base spare held 27 v d p) :
    ∃ (ch rd m0 m1 t0 t1 : Int) (a : Option Addr) (n cap : Nat) (l : List Cnd), v = .agg #[.int .u32 ch, .int .u64 rd, .int .u64 m0, .int .u64 m1, .int .u64 t0, .int .u64 t1, .slice a n cap] ∧ CRow W a l ∧ l.length = n ∧ n ≤ maxLen ∧ (∀ c ∈ l, c.Full) ∧ ((0 ≤ ch ∧ ch ≤ 4294967295) ∧ (0 ≤ rd ∧ rd ≤ 18446744073709551615) ∧ (0 ≤ m0 ∧ m0 ≤ 18446744073709551615) ∧ (0 ≤ m1 ∧ m1 ≤ 18446744073709551615) ∧ (0 ≤ t0 ∧ t0 ≤ 18446744073709551615) ∧ (0 ≤ t1 ∧ t1 ≤ 18446744073709551615)) := by
  simp only [Value.okWide, Tryd.underlying27] at hv
  obtain ⟨cs, rfl, _⟩ := hv
  obtain ⟨fuel, hf⟩ := h
  have hcl : (Value.agg cs).cells.toList = cs.toList := rfl
  rw [hcl] at hf
  have hm : flatR Tryd.prog 2 27 = [(0, 22), (1, 23), (2, 23), (3, 23), (4, 23), (5, 23), (6, 25)] := by kernel_rfl
  have hl : cs.toList.length = 7 := by
    obtain ⟨_, _, _, _, hl, _⟩ := DataW.trod_struct Tryd.underlying27 hf
    rw [hl]; kernel_rfl
  obtain ⟨z0, h0, w0⟩ := (flat_part 2 27 _ _ _ hf 0 22 (by rw [hm]; simp)).int Tryd.underlying22
  obtain ⟨z1, h1, w1⟩ := (flat_part 2 27 _ _ _ hf 1 23 (by rw [hm]; simp)).int Tryd.underlying23
  obtain ⟨z2, h2, w2⟩ := (flat_part 2 27 _ _ _ hf 2 23 (by rw [hm]; simp)).int Tryd.underlying23
  obtain ⟨z3, h3, w3⟩ := (flat_part 2 27 _ _ _ hf 3 23 (by rw [hm]; simp)).int Tryd.underlying23
  obtain ⟨z4, h4, w4⟩ := (flat_part 2 27 _ _ _ hf 4 23 (by rw [hm]; simp)).int Tryd.underlying23
  obtain ⟨z5, h5, w5⟩ := (flat_part 2 27 _ _ _ hf 5 23 (by rw [hm]; simp)).int Tryd.underlying23
  obtain ⟨a, n, cap, h6, d0, p0, t0⟩ := (flat_part 2 27 _ _ _ hf 6 25 (by rw [hm]; simp)).slice Tryd.underlying25
  have f0 := open_flat 4 36 LC Tryd.underlying25 (by kernel_rfl) (by decide) flat30 ⟨23, .u64, by simp [LC], Tryd.underlying23⟩ t0
  obtain ⟨l, hll, hC, hF⟩ := conds_of f0
  refine ⟨z0, z1, z2, z3, z4, z5, a, n, cap, l, ?_, hC, hll, f0.2.1, hF, u32_wf w0, word_wf w1, word_wf w2, word_wf w3, word_wf w4, word_wf w5⟩
  obtain ⟨cs⟩ := cs
  match cs, hl with
  | [u0, u1, u2, u3, u4, u5, u6], _ =>
    simp at h0 h1 h2 h3 h4 h5 h6
    rw [h0, h1, h2, h3, h4, h5, h6]
end

end Go.Proofs.YtbdjlnejlkiijaaDoorRRR
