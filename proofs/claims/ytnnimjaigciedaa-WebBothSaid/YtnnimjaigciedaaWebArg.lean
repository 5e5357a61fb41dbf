/-
  A web that came in.
-/
import Derived.Test.YtnnimjaigciedaaRows
import Derived.Test.YtnnimjaigciedaaChecked
import Derived.Test.YtnnimjaigciedaaFlat
import Derived.Test.YtnnimjaigciedaaWebSm
namespace Go.Proofs.Ytnnimjaigciedaa
open Go.ChangeShapes Go.WideShapes Go.ChangeAt Go.RowKit Go.Deep
set_option linter.unusedVariables false

theorem own : ownKnob Try.prog.godebug = none := by kernel_rfl
theorem laidOut : laidOutB Try.prog = true := by kernel_rfl

theorem word_wf {x : Int} (h : (Lit.int .u64 x).wf = true) : Word x := by
  simp [Lit.wf, IntKind.min, IntKind.max, IntKind.signed, IntKind.bits] at h
  exact ⟨by omega, by omega⟩
theorem i64_wf {x : Int} (h : (Lit.int .i64 x).wf = true) : -9223372036854775808 ≤ x ∧ x ≤ 9223372036854775807 := by
  simp [Lit.wf, IntKind.min, IntKind.max, IntKind.signed, IntKind.bits] at h
  exact ⟨by omega, by omega⟩

section
variable {H : Type} {enc : TypeId × Value → H} {W : World} {base : Nat} {spare : Nat → Bool} {held : Bool}
theorem spots_of {a : Option Addr} {n : Nat} (h : FlatRow enc Try.prog W base spare held a 2 n [(0, 3), (1, 3)]) : ∃ l : List (Int × Int), l.length = n ∧ SpotRow W a l := by
  have each : ∀ i, ∃ q : Int × Int, i < n → ∃ b off, a = some ⟨b, off, none⟩ ∧ b < W.heap.size ∧ W.cell? ⟨b, off + i * 2, none⟩ = some (.int .i64 q.1) ∧ W.cell? ⟨b, off + (i * 2 + 1), none⟩ = some (.int .i64 q.2) := by
    intro i
    by_cases hi : i < n
    · obtain ⟨b, off, ha, hb, cs, hc, hp⟩ := h.row hi
      obtain ⟨x, hx, _⟩ := (hp 0 3 (by simp)).int Try.underlying3
      obtain ⟨y, hy, _⟩ := (hp 1 3 (by simp)).int Try.underlying3
      exact ⟨(x, y), fun _ => ⟨b, off, ha, hb, by have := hc 0 _ hx; rwa [Nat.add_zero] at this, by have := hc 1 _ hy; rwa [Nat.add_assoc] at this⟩⟩
    · exact ⟨(0, 0), fun h => absurd h hi⟩
  obtain ⟨f, hf⟩ := Classical.axiomOfChoice each
  refine ⟨(List.range n).map f, by simp, ?_⟩
  rcases h.1 with h0 | ⟨b, off, ha, hb, _⟩
  · subst h0; exact .inl rfl
  · refine .inr ⟨b, off, ha, hb, fun i hi => ?_⟩
    have hi' : i < n := by simpa using hi
    obtain ⟨b', off', ha', _, h1, h2⟩ := hf i hi'
    rw [ha] at ha'
    injection ha' with ha'
    injection ha' with e1 e2
    subst e1 e2
    simp only [List.getD, List.getElem?_map, List.getElem?_range hi', Option.map_some, Option.getD_some]
    first | exact ⟨h1, h2⟩ | exact ⟨h1, by rw [Nat.add_assoc]; exact h2⟩

theorem edges_of {a : Option Addr} {n : Nat} (h : FlatRow enc Try.prog W base spare held a 8 n [(0, 3), (1, 3), (2, 40), (3, 40), (4, 40), (5, 40), (6, 40), (7, 40)]) : ∃ l : List Ed, l.length = n ∧ EdgeRow W a l ∧ ∀ e ∈ l, EdOk e := by
  have each : ∀ i, ∃ q : Ed, EdOk q ∧ (i < n → ∃ b off, a = some ⟨b, off, none⟩ ∧ b < W.heap.size ∧ ∀ j v, (ecells q)[j]? = some v → W.cell? ⟨b, off + i * 8 + j, none⟩ = some v) := by
    intro i
    by_cases hi : i < n
    · obtain ⟨b, off, ha, hb, cs, hc, hp⟩ := h.row hi
      obtain ⟨z0, h0, w0⟩ := (hp 0 3 (by simp)).int Try.underlying3
      obtain ⟨z1, h1, w1⟩ := (hp 1 3 (by simp)).int Try.underlying3
      obtain ⟨z2, h2, w2⟩ := (hp 2 40 (by simp)).int Try.underlying40
      obtain ⟨z3, h3, w3⟩ := (hp 3 40 (by simp)).int Try.underlying40
      obtain ⟨z4, h4, w4⟩ := (hp 4 40 (by simp)).int Try.underlying40
      obtain ⟨z5, h5, w5⟩ := (hp 5 40 (by simp)).int Try.underlying40
      obtain ⟨z6, h6, w6⟩ := (hp 6 40 (by simp)).int Try.underlying40
      obtain ⟨z7, h7, w7⟩ := (hp 7 40 (by simp)).int Try.underlying40
      refine ⟨⟨z0, z1, z2, z3, z4, z5, z6, z7⟩, ⟨i64_wf w0, i64_wf w1, word_wf w2, word_wf w3, word_wf w4, word_wf w5, word_wf w6, word_wf w7⟩, fun _ => ⟨b, off, ha, hb, fun j v hv => hc j v ?_⟩⟩
      match j, hv with
      | 0, hv => rw [h0]; exact hv
      | 1, hv => rw [h1]; exact hv
      | 2, hv => rw [h2]; exact hv
      | 3, hv => rw [h3]; exact hv
      | 4, hv => rw [h4]; exact hv
      | 5, hv => rw [h5]; exact hv
      | 6, hv => rw [h6]; exact hv
      | 7, hv => rw [h7]; exact hv
      | j + 8, hv => simp [ecells] at hv
    · exact ⟨ed0, ⟨by decide, by decide, ⟨by decide, by decide⟩, ⟨by decide, by decide⟩, ⟨by decide, by decide⟩, ⟨by decide, by decide⟩, ⟨by decide, by decide⟩, ⟨by decide, by decide⟩⟩, fun h => absurd h hi⟩
  obtain ⟨f, hf⟩ := Classical.axiomOfChoice each
  refine ⟨(List.range n).map f, by simp, ?_, fun e he => ?_⟩
  · rcases h.1 with h0 | ⟨b, off, ha, hb, _⟩
    · subst h0; exact .inl rfl
    · refine .inr ⟨b, off, ha, hb, fun i hi => ?_⟩
      have hi' : i < n := by simpa using hi
      obtain ⟨b', off', ha', _, h1⟩ := (hf i).2 hi'
      rw [ha] at ha'
      injection ha' with ha'
      injection ha' with e1 e2
      subst e1 e2
      simp only [List.getD, List.getElem?_map, List.getElem?_range hi', Option.map_some, Option.getD_some]
      exact h1
  · obtain ⟨i, _, rfl⟩ := List.mem_map.1 he
    exact (hf i).1

set_option maxRecDepth 100000 in
/-- A web that came in: its two lists. -/
theorem openWeb {v : Value} {d : DataW H} {p : List MemPlace} {b0 : Nat} (hv : Value.okWide Try.prog W .any b0 25 v) (h : DataW.Trod enc Try.prog W base spare held 25 v d p) :
    ∃ sa sl sc ea el ec sp es, v = .agg #[.slice sa sl sc, .slice ea el ec] ∧ sp.length = sl ∧ es.length = el ∧ SpotRow W sa sp ∧ EdgeRow W ea es ∧ (∀ e ∈ es, EdOk e) ∧ sl ≤ maxLen ∧ el ≤ maxLen := by
  simp only [Value.okWide, Try.underlying25] at hv
  obtain ⟨cs, rfl, _⟩ := hv
  obtain ⟨fuel, hf⟩ := h
  have hcl : (Value.agg cs).cells.toList = cs.toList := rfl
  rw [hcl] at hf
  have hm : flatR Try.prog 1 25 = [(0, 22), (1, 23)] := by kernel_rfl
  have hl : cs.toList.length = 2 := by
    obtain ⟨_, _, _, _, hl, _⟩ := DataW.trod_struct Try.underlying25 hf
    rw [hl]; kernel_rfl
  obtain ⟨sa, sl, sc, h0, d0, p0, t0⟩ := (flat_part 1 25 _ _ _ hf 0 22 (by rw [hm]; simp)).slice Try.underlying22
  obtain ⟨ea, el, ec, h1, d1, p1, t1⟩ := (flat_part 1 25 _ _ _ hf 1 23 (by rw [hm]; simp)).slice Try.underlying23
  have f0 := open_flat 4 2 [(0, 3), (1, 3)] Try.underlying22 (by kernel_rfl) (by decide) (by kernel_rfl) ⟨3, .i64, by simp, Try.underlying3⟩ t0
  have f1 := open_flat 4 8 [(0, 3), (1, 3), (2, 40), (3, 40), (4, 40), (5, 40), (6, 40), (7, 40)] Try.underlying23 (by kernel_rfl) (by decide) (by kernel_rfl) ⟨3, .i64, by simp, Try.underlying3⟩ t1
  obtain ⟨sp, hsp, hS⟩ := spots_of f0
  obtain ⟨es, hes, hE, hok⟩ := edges_of f1
  refine ⟨sa, sl, sc, ea, el, ec, sp, es, ?_, hsp, hes, hS, hE, hok, f0.2.1, f1.2.1⟩
  obtain ⟨cs⟩ := cs
  match cs, hl with
  | [u, v], _ =>
    simp at h0 h1
    rw [h0, h1]
end
end Go.Proofs.Ytnnimjaigciedaa
