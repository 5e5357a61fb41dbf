/-
  What came in, taken apart to its single cells: structs and arrays within structs and arrays, as fields, or as a slice's elements; of any program.
  A web that came in.
-/
import Derived.Test.YtnnimjaigciedaaM01
import Derived.ProofKit
import Derived.OpenShut
import Derived.ShutString
import Derived.ChangeOld
import Derived.Deep.Slices
import Derived.Test.YtnnimjaigciedaaRows
import Derived.Test.YtnnimjaigciedaaChecked
import Derived.Test.YtnnimjaigciedaaWebSm
namespace Go.Proofs.Ytnnimjaigciedaa
open Go.ChangeShapes Go.WideShapes Go.ChangeAt Go.RowKit Go.Deep
set_option linter.unusedVariables false

/-- A type's parts that are neither struct nor array, each with its place. -/
def flatR (P : Program) : Nat → TypeId → List (Nat × TypeId)
  | 0, t => [(0, t)]
  | n + 1, t =>
    match P.underlying t with
    | some (.struct fs) => fs.toList.flatMap fun f => (flatR P n f.type).map fun (o, u) => (f.offset + o, u)
    | some (.array k e) => (List.range k).flatMap fun i => (flatR P n e).map fun (o, u) => (i * P.cellsOf e + o, u)
    | _ => [(0, t)]

section
variable {H : Type} {enc : TypeId × Value → H} {P : Program} {w : World} {base : Nat} {spare : Nat → Bool} {held : Bool}
/-- The part of type u that lies from cell o on. -/
def PartAt (enc : TypeId × Value → H) (P : Program) (w : World) (base : Nat) (spare : Nat → Bool) (held : Bool) (cs : List Value) (o : Nat) (u : TypeId) : Prop :=
  ∃ fuel cs' y, DataW.trod enc P w base spare held fuel u cs' = some y ∧ ∀ j v, cs'[j]? = some v → cs[o + j]? = some v

theorem flat_part : ∀ (n : Nat) (t : TypeId) (fuel : Nat) (cs : List Value) (x : DataW H × List MemPlace), DataW.trod enc P w base spare held fuel t cs = some x →
    ∀ o u, (o, u) ∈ flatR P n t → PartAt enc P w base spare held cs o u := by
  intro n
  induction n with
  | zero =>
    intro t fuel cs x h o u hm
    simp [flatR] at hm
    obtain ⟨rfl, rfl⟩ := hm
    exact ⟨fuel, cs, x, h, fun j v hv => by rw [Nat.zero_add]; exact hv⟩
  | succ n ih =>
    intro t fuel cs x h o u hm
    unfold flatR at hm
    split at hm
    · rename_i fs hu
      obtain ⟨f, hf, hm⟩ := List.mem_flatMap.1 hm
      obtain ⟨⟨o', u'⟩, hm2, he⟩ := List.mem_map.1 hm
      simp at he
      obtain ⟨rfl, rfl⟩ := he
      obtain ⟨xs, m, _, _, hl, hxl, hx⟩ := DataW.trod_struct hu h
      obtain ⟨i, hi, hfi⟩ := List.mem_iff_getElem.1 hf
      have hfi' : fs[i]? = some f := by rw [← hfi]; simp
      have h1 := hx i f hfi'
      have hi' : i < xs.length := by rw [hxl]; simpa using hi
      rw [List.getElem?_eq_getElem hi'] at h1
      obtain ⟨fu, cs', y, h2, h3⟩ := ih _ _ _ _ h1 _ _ hm2
      refine ⟨fu, cs', y, h2, fun j v hv => ?_⟩
      have h4 := h3 j v hv
      rw [List.getElem?_take] at h4
      split at h4
      · rw [List.getElem?_drop] at h4
        rw [Nat.add_assoc]; exact h4
      · cases h4
    · rename_i k e hu
      obtain ⟨i, hi, hm⟩ := List.mem_flatMap.1 hm
      obtain ⟨⟨o', u'⟩, hm2, he⟩ := List.mem_map.1 hm
      simp at he
      obtain ⟨rfl, rfl⟩ := he
      obtain ⟨xs, m, _, _, hl, hxl, hx⟩ := DataW.trod_array hu h
      have hik := List.mem_range.1 hi
      have h1 := hx i hik
      rw [List.getElem?_eq_getElem (by omega)] at h1
      obtain ⟨fu, cs', y, h2, h3⟩ := ih _ _ _ _ h1 _ _ hm2
      refine ⟨fu, cs', y, h2, fun j v hv => ?_⟩
      have h4 := h3 j v hv
      rw [List.getElem?_take] at h4
      split at h4
      · rw [List.getElem?_drop] at h4
        rw [Nat.add_assoc]; exact h4
      · cases h4
    · simp at hm
      obtain ⟨rfl, rfl⟩ := hm
      exact ⟨fuel, cs, x, h, fun j v hv => by rw [Nat.zero_add]; exact hv⟩

theorem PartAt.int {cs : List Value} {o : Nat} {u : TypeId} {k : IntKind} (h : PartAt enc P w base spare held cs o u) (hu : P.underlying u = some (.int k)) : ∃ z, cs[o]? = some (.int k z) ∧ (Lit.int k z).wf = true := by
  obtain ⟨fu, cs', y, h1, h2⟩ := h
  obtain ⟨z, rfl, _, hw⟩ := DataW.trod_int hu h1
  exact ⟨z, h2 0 _ rfl, hw⟩
theorem PartAt.bool {cs : List Value} {o : Nat} {u : TypeId} (h : PartAt enc P w base spare held cs o u) (hu : P.underlying u = some .bool) : ∃ b, cs[o]? = some (.bool b) := by
  obtain ⟨fu, cs', y, h1, h2⟩ := h
  obtain ⟨z, rfl, _⟩ := DataW.trod_bool hu h1
  exact ⟨z, h2 0 _ rfl⟩
theorem PartAt.string {cs : List Value} {o : Nat} {u : TypeId} (h : PartAt enc P w base spare held cs o u) (hu : P.underlying u = some .string) : ∃ s : ByteArray, cs[o]? = some (.string s) ∧ s.size ≤ maxLen := by
  obtain ⟨fu, cs', y, h1, h2⟩ := h
  obtain ⟨z, rfl, _, hw⟩ := DataW.trod_string hu h1
  exact ⟨z, h2 0 _ rfl, hw⟩
theorem PartAt.slice {cs : List Value} {o : Nat} {u e : TypeId} (h : PartAt enc P w base spare held cs o u) (hu : P.underlying u = some (.slice e)) : ∃ a n c, cs[o]? = some (.slice a n c) ∧ ∃ d p, DataW.Trod enc P w base spare held u (.slice a n c) d p := by
  obtain ⟨fu, cs', y, h1, h2⟩ := h
  rcases DataW.trod_slice hu h1 with ⟨rfl, _⟩ | ⟨a, len, cap, elems, rest, n, _, rfl, _⟩
  · exact ⟨_, _, _, h2 0 _ rfl, y.1, y.2, fu, h1⟩
  · exact ⟨_, _, _, h2 0 _ rfl, y.1, y.2, fu, h1⟩

/-- A slice whose elements take c cells each: nothing; or its cells lie in one block, each element with all of its parts. -/
def FlatRow (enc : TypeId × Value → H) (P : Program) (w : World) (base : Nat) (spare : Nat → Bool) (held : Bool) (a : Option Addr) (c n : Nat) (ls : List (Nat × TypeId)) : Prop :=
  (n = 0 ∨ ∃ b off, a = some ⟨b, off, none⟩ ∧ b < w.heap.size ∧ ∀ i, i < n → ∃ cs : List Value, (∀ j v, cs[j]? = some v → w.cell? ⟨b, off + i * c + j, none⟩ = some v) ∧ ∀ o u, (o, u) ∈ ls → PartAt enc P w base spare held cs o u) ∧ n ≤ maxLen ∧ (a = none → n = 0)

theorem open_flat {t e : TypeId} {a : Option Addr} {len cap : Nat} {d : DataW H} {p : List MemPlace} (n c : Nat) (ls : List (Nat × TypeId)) (ht : P.underlying t = some (.slice e)) (hc : P.cellsOf e = c) (hc0 : 0 < c) (hls : flatR P n e = ls) (hne : ∃ u k, (0, u) ∈ ls ∧ P.underlying u = some (.int k))
    (h : DataW.Trod enc P w base spare held t (.slice a len cap) d p) : FlatRow enc P w base spare held a c len ls := by
  subst hc hls
  obtain ⟨fuel, hf⟩ := h
  rcases open_slice ht hf with ⟨hcs, _⟩ | ⟨x, l, cp, m, fu, D, Pl, hcs, _, hl, hm, hmm, hd, hx⟩
  · simp [Value.cells] at hcs
    obtain ⟨rfl, rfl, rfl⟩ := hcs
    exact ⟨.inl rfl, by unfold maxLen; omega, fun _ => rfl⟩
  · simp [Value.cells] at hcs
    obtain ⟨rfl, rfl, rfl⟩ := hcs
    have hlm : len ≤ m := by rw [hmm]; split <;> omega
    refine ⟨?_, by omega, fun h => by cases h⟩
    by_cases h0 : len = 0
    · exact .inl h0
    · right
      obtain ⟨b, off, spot⟩ := x
      have first : ∃ v, w.cell? ((⟨b, off, spot⟩ : Addr).add (0 * P.cellsOf e) |>.add 0) = some v := by
        obtain ⟨cs', h1, h2⟩ := hx 0 (by omega)
        obtain ⟨u, k, hu, hk⟩ := hne
        obtain ⟨z, hz, _⟩ := (flat_part n e _ _ _ h2 0 u hu).int hk
        have h3 := World.cells?_some h1
        exact ⟨_, by rw [h3.2.2 0 hc0]; exact hz⟩
      have hspot : spot = none := by
        obtain ⟨v, hv⟩ := first
        simpa [Addr.add] using World.cell?_spot hv
      subst hspot
      refine ⟨b, off, rfl, ?_, fun i hi => ?_⟩
      · obtain ⟨v, hv⟩ := first
        have := World.block_lt_of_cell? _ _ hv
        rw [Go.WideShapes.add_plain, Go.WideShapes.add_plain] at this
        exact this
      · obtain ⟨cs', h1, h2⟩ := hx i (by omega)
        have h3 := World.cells?_some h1
        refine ⟨cs', fun j v hv => ?_, fun o u hm => flat_part n e _ _ _ h2 o u hm⟩
        have hj : j < P.cellsOf e := by
          rcases Nat.lt_or_ge j (P.cellsOf e) with h | h
          · exact h
          · rw [List.getElem?_eq_none (by omega)] at hv; cases hv
        have h4 := h3.2.2 j hj
        rw [Go.WideShapes.add_plain, Go.WideShapes.add_plain] at h4
        rw [h4]; exact hv

theorem FlatRow.row {a : Option Addr} {c n i : Nat} {ls : List (Nat × TypeId)} (h : FlatRow enc P w base spare held a c n ls) (hi : i < n) : ∃ b off, a = some ⟨b, off, none⟩ ∧ b < w.heap.size ∧ ∃ cs : List Value, (∀ j v, cs[j]? = some v → w.cell? ⟨b, off + i * c + j, none⟩ = some v) ∧ ∀ o u, (o, u) ∈ ls → PartAt enc P w base spare held cs o u := by
  rcases h.1 with h0 | ⟨b, off, ha, hb, hx⟩
  · omega
  · exact ⟨b, off, ha, hb, hx i hi⟩
end
end Go.Proofs.Ytnnimjaigciedaa
namespace Go.Proofs.Ytnnimjaigciedaa
open Go.ChangeShapes Go.WideShapes Go.ChangeAt Go.RowKit Go.Deep
set_option linter.unusedVariables false

theorem own : ownKnob Try.prog.godebug = none := by kernel_rfl
theorem laidOut : laidOutB Try.prog = true := by kernel_rfl

theorem word_wf {x : Int} (h : (Lit.int .u64 x).wf = true) : Word x := by
  simp [Lit.wf, IntKind.min, IntKind.max, IntKind.signed, IntKind.bits] at h
  exact ⟨by omega, by omega⟩
theorem i64_wf {x : Int} (h : (Lit.int .i64 x).wf = true) : -9223372036854775808 ≤ x ∧ x ≤ 9223372036854775807 := by
  simp [Lit.wf, IntKind.min, IntKind.max, IntKind.signed, IntKind.bits] at h
  exact ⟨by omega, by omega⟩

section
variable {H : Type} {enc : TypeId × Value → H} {W : World} {base : Nat} {spare : Nat → Bool} {held : Bool}
theorem spots_of {a : Option Addr} {n : Nat} (h : FlatRow enc Try.prog W base spare held a 2 n [(0, 3), (1, 3)]) : ∃ l : List (Int × Int), l.length = n ∧ SpotRow W a l := by
  have each : ∀ i, ∃ q : Int × Int, i < n → ∃ b off, a = some ⟨b, off, none⟩ ∧ b < W.heap.size ∧ W.cell? ⟨b, off + i * 2, none⟩ = some (.int .i64 q.1) ∧ W.cell? ⟨b, off + (i * 2 + 1), none⟩ = some (.int .i64 q.2) := by
    intro i
    by_cases hi : i < n
    · obtain ⟨b, off, ha, hb, cs, hc, hp⟩ := h.row hi
      obtain ⟨x, hx, _⟩ := (hp 0 3 (by simp)).int Try.underlying3
      obtain ⟨y, hy, _⟩ := (hp 1 3 (by simp)).int Try.underlying3
      exact ⟨(x, y), fun _ => ⟨b, off, ha, hb, by have := hc 0 _ hx; rwa [Nat.add_zero] at this, by have := hc 1 _ hy; rwa [Nat.add_assoc] at this⟩⟩
    · exact ⟨(0, 0), fun h => absurd h hi⟩
  obtain ⟨f, hf⟩ := Classical.axiomOfChoice each
  refine ⟨(List.range n).map f, by simp, ?_⟩
  rcases h.1 with h0 | ⟨b, off, ha, hb, _⟩
  · subst h0; exact .inl rfl
  · refine .inr ⟨b, off, ha, hb, fun i hi => ?_⟩
    have hi' : i < n := by simpa using hi
    obtain ⟨b', off', ha', _, h1, h2⟩ := hf i hi'
    rw [ha] at ha'
    injection ha' with ha'
    injection ha' with e1 e2
    subst e1 e2
    simp only [List.getD, List.getElem?_map, List.getElem?_range hi', Option.map_some, Option.getD_some]
    first | exact ⟨h1, h2⟩ | exact ⟨h1, by rw [Nat.add_assoc]; exact h2⟩

theorem edges_of {a : Option Addr} {n : Nat} (h : FlatRow enc Try.prog W base spare held a 8 n [(0, 3), (1, 3), (2, 40), (3, 40), (4, 40), (5, 40), (6, 40), (7, 40)]) : ∃ l : List Ed, l.length = n ∧ EdgeRow W a l ∧ ∀ e ∈ l, EdOk e := by
  have each : ∀ i, ∃ q : Ed, EdOk q ∧ (i < n → ∃ b off, a = some ⟨b, off, none⟩ ∧ b < W.heap.size ∧ ∀ j v, (ecells q)[j]? = some v → W.cell? ⟨b, off + i * 8 + j, none⟩ = some v) := by
    intro i
    by_cases hi : i < n
    · obtain ⟨b, off, ha, hb, cs, hc, hp⟩ := h.row hi
      obtain ⟨z0, h0, w0⟩ := (hp 0 3 (by simp)).int Try.underlying3
      obtain ⟨z1, h1, w1⟩ := (hp 1 3 (by simp)).int Try.underlying3
      obtain ⟨z2, h2, w2⟩ := (hp 2 40 (by simp)).int Try.underlying40
      obtain ⟨z3, h3, w3⟩ := (hp 3 40 (by simp)).int Try.underlying40
      obtain ⟨z4, h4, w4⟩ := (hp 4 40 (by simp)).int Try.underlying40
      obtain ⟨z5, h5, w5⟩ := (hp 5 40 (by simp)).int Try.underlying40
      obtain ⟨z6, h6, w6⟩ := (hp 6 40 (by simp)).int Try.underlying40
      obtain ⟨z7, h7, w7⟩ := (hp 7 40 (by simp)).int Try.underlying40
      refine ⟨⟨z0, z1, z2, z3, z4, z5, z6, z7⟩, ⟨i64_wf w0, i64_wf w1, word_wf w2, word_wf w3, word_wf w4, word_wf w5, word_wf w6, word_wf w7⟩, fun _ => ⟨b, off, ha, hb, fun j v hv => hc j v ?_⟩⟩
      match j, hv with
      | 0, hv => rw [h0]; exact hv
      | 1, hv => rw [h1]; exact hv
      | 2, hv => rw [h2]; exact hv
      | 3, hv => rw [h3]; exact hv
      | 4, hv => rw [h4]; exact hv
      | 5, hv => rw [h5]; exact hv
      | 6, hv => rw [h6]; exact hv
      | 7, hv => rw [h7]; exact hv
      | j + 8, hv => simp [ecells] at hv
    · exact ⟨ed0, ⟨by decide, by decide, ⟨by decide, by decide⟩, ⟨by decide, by decide⟩, ⟨by decide, by decide⟩, ⟨by decide, by decide⟩, ⟨by decide, by decide⟩, ⟨by decide, by decide⟩⟩, fun h => absurd h hi⟩
  obtain ⟨f, hf⟩ := Classical.axiomOfChoice each
  refine ⟨(List.range n).map f, by simp, ?_, fun e he => ?_⟩
  · rcases h.1 with h0 | ⟨b, off, ha, hb, _⟩
    · subst h0; exact .inl rfl
    · refine .inr ⟨b, off, ha, hb, fun i hi => ?_⟩
      have hi' : i < n := by simpa using hi
      obtain ⟨b', off', ha', _, h1⟩ := (hf i).2 hi'
      rw [ha] at ha'
      injection ha' with ha'
      injection ha' with e1 e2
      subst e1 e2
      simp only [List.getD, List.getElem?_map, List.getElem?_range hi', Option.map_some, Option.getD_some]
      exact h1
  · obtain ⟨i, _, rfl⟩ := List.mem_map.1 he
    exact (hf i).1

set_option maxRecDepth 100000 in
/-- A web that came in: its two lists. -/
theorem openWeb {v : Value} {d : DataW H} {p : List MemPlace} {b0 : Nat} (hv : Value.okWide Try.prog W .any b0 25 v) (h : DataW.Trod enc Try.prog W base spare held 25 v d p) :
    ∃ sa sl sc ea el ec sp es, v = .agg #[.slice sa sl sc, .slice ea el ec] ∧ sp.length = sl ∧ es.length = el ∧ SpotRow W sa sp ∧ EdgeRow W ea es ∧ (∀ e ∈ es, EdOk e) ∧ sl ≤ maxLen ∧ el ≤ maxLen := by
  simp only [Value.okWide, Try.underlying25] at hv
  obtain ⟨cs, rfl, _⟩ := hv
  obtain ⟨fuel, hf⟩ := h
  have hcl : (Value.agg cs).cells.toList = cs.toList := rfl
  rw [hcl] at hf
  have hm : flatR Try.prog 1 25 = [(0, 22), (1, 23)] := by kernel_rfl
  have hl : cs.toList.length = 2 := by
    obtain ⟨_, _, _, _, hl, _⟩ := DataW.trod_struct Try.underlying25 hf
    rw [hl]; kernel_rfl
  obtain ⟨sa, sl, sc, h0, d0, p0, t0⟩ := (flat_part 1 25 _ _ _ hf 0 22 (by rw [hm]; simp)).slice Try.underlying22
  obtain ⟨ea, el, ec, h1, d1, p1, t1⟩ := (flat_part 1 25 _ _ _ hf 1 23 (by rw [hm]; simp)).slice Try.underlying23
  have f0 := open_flat 4 2 [(0, 3), (1, 3)] Try.underlying22 (by kernel_rfl) (by decide) (by kernel_rfl) ⟨3, .i64, by simp, Try.underlying3⟩ t0
  have f1 := open_flat 4 8 [(0, 3), (1, 3), (2, 40), (3, 40), (4, 40), (5, 40), (6, 40), (7, 40)] Try.underlying23 (by kernel_rfl) (by decide) (by kernel_rfl) ⟨3, .i64, by simp, Try.underlying3⟩ t1
  obtain ⟨sp, hsp, hS⟩ := spots_of f0
  obtain ⟨es, hes, hE, hok⟩ := edges_of f1
  refine ⟨sa, sl, sc, ea, el, ec, sp, es, ?_, hsp, hes, hS, hE, hok, f0.2.1, f1.2.1⟩
  obtain ⟨cs⟩ := cs
  match cs, hl with
  | [u, v], _ =>
    simp at h0 h1
    rw [h0, h1]
end
end Go.Proofs.Ytnnimjaigciedaa
