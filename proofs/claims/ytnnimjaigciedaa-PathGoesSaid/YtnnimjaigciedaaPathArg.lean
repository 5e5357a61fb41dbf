/-
  A route that came in.
-/
import Derived.Test.YtnnimjaigciedaaM02
import Derived.Test.YtnnimjaigciedaaPathX
namespace Go.Proofs.Ytnnimjaigciedaa
open Go.ChangeShapes Go.WideShapes Go.ChangeAt Go.RowKit Go.Deep
set_option linter.unusedVariables false

section
variable {H : Type} {enc : TypeId × Value → H} {W : World} {base : Nat} {spare : Nat → Bool} {held : Bool}
set_option maxRecDepth 100000 in
theorem ints_of {k : IntKind} {t : TypeId} {a : Option Addr} {n : Nat} (ht : Try.prog.underlying t = some (.int k)) (h : FlatRow enc Try.prog W base spare held a 1 n [(0, t)]) : ∃ l : List Int, l.length = n ∧ (∀ x ∈ l, (Lit.int k x).wf = true) ∧ (l = [] ∨ ∃ b off, a = some ⟨b, off, none⟩ ∧ b < W.heap.size ∧ ∀ i, i < l.length → W.cell? ⟨b, off + i, none⟩ = some (.int k (l.getD i 0))) := by
  have each : ∀ i, ∃ q : Int, (Lit.int k q).wf = true ∧ (i < n → ∃ b off, a = some ⟨b, off, none⟩ ∧ b < W.heap.size ∧ W.cell? ⟨b, off + i, none⟩ = some (.int k q)) := by
    intro i
    by_cases hi : i < n
    · obtain ⟨b, off, ha, hb, cs, hc, hp⟩ := h.row hi
      obtain ⟨x, hx, hw⟩ := (hp 0 t (by simp)).int ht
      exact ⟨x, hw, fun _ => ⟨b, off, ha, hb, by have := hc 0 _ hx; rwa [Nat.add_zero, Nat.mul_one] at this⟩⟩
    · exact ⟨0, by cases k <;> decide, fun h => absurd h hi⟩
  obtain ⟨f, hf⟩ := Classical.axiomOfChoice each
  refine ⟨(List.range n).map f, by simp, fun x hx => ?_, ?_⟩
  · obtain ⟨i, _, rfl⟩ := List.mem_map.1 hx
    exact (hf i).1
  rcases h.1 with h0 | ⟨b, off, ha, hb, _⟩
  · subst h0; exact .inl rfl
  · refine .inr ⟨b, off, ha, hb, fun i hi => ?_⟩
    have hi' : i < n := by simpa using hi
    obtain ⟨b', off', ha', _, h1⟩ := (hf i).2 hi'
    rw [ha] at ha'
    injection ha' with ha'
    injection ha' with e1 e2
    subst e1 e2
    rw [List.getD_eq_getElem?_getD, List.getElem?_map, List.getElem?_range hi']
    exact h1
set_option maxRecDepth 100000 in
theorem openRoute {v : Value} {d : DataW H} {p : List MemPlace} {b0 : Nat} (hv : Value.okWide Try.prog W .any b0 87 v) (h : DataW.Trod enc Try.prog W base spare held 87 v d p) :
    ∃ na n nc ga m gc aa k ac ns gs am, v = .agg #[.slice na n nc, .slice ga m gc, .slice aa k ac] ∧ ns.length = n ∧ gs.length = m ∧ am.length = k ∧ IRow W na ns ∧ IRow W ga gs ∧ Mon.Nums W aa am ∧ n ≤ maxLen ∧ m ≤ maxLen ∧ k ≤ maxLen := by
  simp only [Value.okWide, Try.underlying87] at hv
  obtain ⟨cs, rfl, _⟩ := hv
  obtain ⟨fuel, hf⟩ := h
  have hcl : (Value.agg cs).cells.toList = cs.toList := rfl
  rw [hcl] at hf
  have hm : flatR Try.prog 1 87 = [(0, 58), (1, 58), (2, 85)] := by kernel_rfl
  have hl : cs.toList.length = 3 := by
    obtain ⟨_, _, _, _, hl, _⟩ := DataW.trod_struct Try.underlying87 hf
    rw [hl]; kernel_rfl
  obtain ⟨na, n, nc, h0, d0, p0, t0⟩ := (flat_part 1 87 _ _ _ hf 0 58 (by rw [hm]; simp)).slice Try.underlying58
  obtain ⟨ga, m, gc, h1, d1, p1, t1⟩ := (flat_part 1 87 _ _ _ hf 1 58 (by rw [hm]; simp)).slice Try.underlying58
  obtain ⟨aa, k, ac, h2, d2, p2, t2⟩ := (flat_part 1 87 _ _ _ hf 2 85 (by rw [hm]; simp)).slice Try.underlying85
  have f0 := open_flat 1 1 [(0, 3)] Try.underlying58 (by kernel_rfl) (by decide) (by kernel_rfl) ⟨3, .i64, by simp, Try.underlying3⟩ t0
  have f1 := open_flat 1 1 [(0, 3)] Try.underlying58 (by kernel_rfl) (by decide) (by kernel_rfl) ⟨3, .i64, by simp, Try.underlying3⟩ t1
  have f2 := open_flat 1 1 [(0, 40)] Try.underlying85 (by kernel_rfl) (by decide) (by kernel_rfl) ⟨40, .u64, by simp, Try.underlying40⟩ t2
  obtain ⟨ns, hns, _, hN⟩ := ints_of Try.underlying3 f0
  obtain ⟨gs, hgs, _, hG⟩ := ints_of Try.underlying3 f1
  obtain ⟨am, ham, hw, hA⟩ := ints_of Try.underlying40 f2
  refine ⟨na, n, nc, ga, m, gc, aa, k, ac, ns, gs, am, ?_, hns, hgs, ham, hN, hG, ⟨hA, fun x hx => word_wf (hw x hx), ?_⟩, f0.2.1, f1.2.1, f2.2.1⟩
  · obtain ⟨cs⟩ := cs
    match cs, hl with
    | [u, v, x], _ =>
      simp at h0 h1 h2
      rw [h0, h1, h2]
  · have := f2.2.1
    unfold maxLen at this
    omega
end
end Go.Proofs.Ytnnimjaigciedaa
