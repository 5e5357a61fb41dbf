/-
  Steps that came in: no bytes of one are longer than what can be read.
-/
import Derived.Test.YtjkpdfdcjhnjdaaPlB
import Derived.SizedLaws
namespace Go.Proofs.Ytjkpdfdcjhnjdaa
open Go.ChangeShapes Go.WideShapes Go.ChangeAt Go.RowKit Go.Deep
set_option linter.unusedVariables false

theorem weightsAll_mem {H : Type} {P : Program} {e : TypeId} : ∀ {l : List (DataW H)} {d : DataW H}, d ∈ l → ∀ n ∈ d.weights P e, n ∈ DataW.weightsAll P e l
  | d' :: r, d, hd, n, hn => by
    simp only [DataW.weightsAll, List.mem_append]
    rcases List.mem_cons.1 hd with rfl | h
    · exact Or.inl hn
    · exact Or.inr (weightsAll_mem h n hn)
theorem bytes5 : Try.prog.bytesOf 5 = 1 := by kernel_rfl
theorem cells29 : Try.prog.cellsOf 29 = 4 := by kernel_rfl
theorem struct29 : ∃ fs, Try.prog.underlying 29 = some (.struct fs) ∧ (fs.toList.map (·.type)) = [3, 3, 3, 27] ∧ (fs[3]?).map (fun f => (f.type, f.offset)) = some (27, 3) := ⟨_, Try.underlying29, rfl, rfl⟩
theorem cells27 : Try.prog.cellsOf 27 = 1 := by kernel_rfl

theorem ops_sized {H : Type} {enc : TypeId × Value → H} {W : World} {base : Nat} {spare : Nat → Bool} {held : Bool} {b off len cap : Nat} {d : DataW H} {p : List MemPlace}
    (h : DataW.Trod enc Try.prog W base spare held 22 (.slice (some ⟨b, off, none⟩) len cap) d p) (hw : ∀ n ∈ d.weights Try.prog 22, n ≤ reachBytes) :
    ∀ i, i < len → ∀ ap np cp, W.cell? ⟨b, off + i * 4 + 3, none⟩ = some (.slice ap np cp) → np ≤ 140737488351232 := by
  intro i hi ap np cp hc
  obtain ⟨fuel, hf⟩ := h
  rcases open_slice Try.underlying22 hf with ⟨hcs, _⟩ | ⟨x, l, cp', m, fu, D, Pl, hcs, _, hl, hm, hmm, hd, hx⟩
  · simp [Value.cells] at hcs
  · simp [Value.cells] at hcs
    obtain ⟨rfl, rfl, rfl⟩ := hcs
    have hlm : len ≤ m := by rw [hmm]; split <;> omega
    obtain ⟨cs', h1, h2⟩ := hx i (by omega)
    have h3 := World.cells?_some h1
    have h4 := h3.2.2 3 (by rw [cells29]; decide)
    rw [cells29, Go.WideShapes.add_plain, Go.WideShapes.add_plain, hc] at h4
    obtain ⟨fs, hfs, hty, hf3⟩ := struct29
    obtain ⟨xs, m2, _, hxe, hcl, hxl, hxi⟩ := DataW.trod_struct hfs h2
    obtain ⟨f, hff, hfe⟩ : ∃ f, fs[3]? = some f ∧ (f.type, f.offset) = (27, 3) := by
      cases hq : fs[3]? with
      | none => rw [hq] at hf3; cases hf3
      | some f => rw [hq] at hf3; exact ⟨f, rfl, by simpa using hf3⟩
    injection hfe with hft hfo
    have h5 := hxi 3 f hff
    rw [hft, hfo, cells27] at h5
    have h6 : (cs'.drop 3).take 1 = [.slice ap np cp] := by
      have h9 : cs'[3]? = some (.slice ap np cp) := h4.symm
      rw [List.take_one]
      simp [h9]
    rw [h6] at h5
    have hx3 : 3 < xs.length := by
      rw [hxl]
      have := congrArg List.length hty
      simp at this
      omega
    rw [List.getElem?_eq_getElem hx3] at h5
    rcases DataW.trod_slice Try.underlying27 h5 with ⟨h7, _⟩ | ⟨a9, len9, cap9, elems, rest, n9, _, h7, h8, _, _, _, h10, _⟩
    · injection h7 with h7
      injection h7 with _ h7 _
      omega
    · injection h7 with h7
      injection h7 with _ h7 _
      have hmem : (elems.length + rest.length) * Try.prog.bytesOf 5 ∈ d.weights Try.prog 22 := by
        have hd' : d = .slice ((List.range len).map D) ((List.range (m - len)).map fun j => D (len + j)) := by
          injection hd
        rw [hd']
        simp only [DataW.weights, Try.underlying22, List.mem_cons, List.mem_append]
        refine .inr (.inl (weightsAll_mem (d := D i) (List.mem_map.2 ⟨i, List.mem_range.2 hi, rfl⟩) _ ?_))
        have hD : D i = .agg (xs.map (·.1)) := by
          injection hxe
        rw [hD]
        simp only [DataW.weights, hfs, hty]
        refine DataW.weights_mem_each (j := 3) (t := 27) (d := (xs[3]).1) rfl (by simp [hx3]) _ ?_
        rw [h8]
        simp [DataW.weights, Try.underlying27]
      have := hw _ hmem
      rw [bytes5] at this
      simp only [reachBytes] at this
      omega
end Go.Proofs.Ytjkpdfdcjhnjdaa
