/-
  Ways in memory, read one by one; what each of them is.
-/
import Derived.Test.YtnnimjaigciedaaWebSv
namespace Go.Proofs.Ytnnimjaigciedaa
open Go.RowKit
set_option linter.unusedVariables false

def stp00 : Stp := ⟨0, 0, 0, 0, 0⟩
/-- A way's cells. -/
def StpAt (w : World) (b o : Nat) (s : Stp) : Prop := b < w.heap.size ∧ ∀ j v, (scells s)[j]? = some v → w.cell? ⟨b, o + j, none⟩ = some v
theorem StpAt.below {w w' : World} {b o : Nat} {s : Stp} (h : StpAt w b o s) (hB : Below w.heap.size w w') : StpAt w' b o s :=
  ⟨Nat.lt_of_lt_of_le h.1 hB.size, fun j v hv => (hB.cell (p := ⟨b, o + j, none⟩) h.1).trans (h.2 j v hv)⟩
def StpRow (w : World) (a : Option Addr) (l : List Stp) : Prop :=
  l = [] ∨ ∃ b off, a = some ⟨b, off, none⟩ ∧ b < w.heap.size ∧ ∀ i, i < l.length → ∀ j v, (scells (l.getD i stp00))[j]? = some v → w.cell? ⟨b, off + i * 5 + j, none⟩ = some v
theorem StpRow.below {w w' : World} {a : Option Addr} {l : List Stp} (h : StpRow w a l) (hB : Below w.heap.size w w') : StpRow w' a l := by
  rcases h with h | ⟨b, off, ha, hb, hc⟩
  · exact .inl h
  · exact .inr ⟨b, off, ha, Nat.lt_of_lt_of_le hb hB.size, fun i hi j v hv => (hB.cell (p := ⟨b, off + i * 5 + j, none⟩) hb).trans (hc i hi j v hv)⟩
theorem StpRow.at_ {w : World} {a : Option Addr} {l : List Stp} {k : Nat} (h : StpRow w a l) (hk : k < l.length) : ∃ b off, a = some ⟨b, off, none⟩ ∧ StpAt w b (off + k * 5) (l.getD k stp00) := by
  rcases h with h | ⟨b, off, ha, hlt, hc⟩
  · rw [h] at hk; simp at hk
  · exact ⟨b, off, ha, hlt, hc k hk⟩
theorem sflat_at (l : List Stp) : ∀ i, i < l.length → ∀ j v, (scells (l.getD i stp00))[j]? = some v → (sflat l)[i * 5 + j]? = some v := by
  induction l with
  | nil => intro i hi; simp at hi
  | cons f r ih =>
    intro i hi j v hv
    have e : sflat (f :: r) = scells f ++ sflat r := by simp [sflat]
    have hl : (scells f).length = 5 := rfl
    rw [e]
    match i, hi with
    | 0, _ =>
      have hj : j < 5 := by
        rcases Nat.lt_or_ge j 5 with h | h
        · exact h
        · rw [List.getElem?_eq_none (by simpa [scells] using h)] at hv; cases hv
      rw [Nat.zero_mul, Nat.zero_add, List.getElem?_append_left (by rw [hl]; exact hj)]
      simpa using hv
    | i + 1, hi =>
      rw [List.getElem?_append_right (by rw [hl]; omega), hl, show (i + 1) * 5 + j - 5 = i * 5 + j by omega]
      exact ih i (by simpa using hi) j v (by simpa using hv)
theorem StpRow.of_own {w : World} {base : Nat} {t : TypeId} {v : Value} {l : List Stp} (h : w.ownsRow base t 5 v l.length (sflat l)) : ∃ a c, v = .slice a l.length c ∧ StpRow w a l ∧ c ≤ maxLen := by
  rcases h.2 with ⟨rfl, h0⟩ | ⟨g, c, cur, rfl, _, hg, _, hcm, _⟩
  · have : l = [] := List.eq_nil_of_length_eq_zero h0
    subst this
    exact ⟨none, 0, rfl, .inl rfl, Nat.zero_le _⟩
  · refine ⟨_, c, rfl, .inr ⟨g, 0, rfl, ?_, fun i hi j v hv => ?_⟩, hcm⟩
    · rcases Nat.lt_or_ge g w.heap.size with h2 | h2
      · exact h2
      · rw [Array.getElem?_eq_none h2] at hg; cases hg
    · have h1 := sflat_at l i hi j v hv
      have h2 := h.cells (g := g) rfl _ _ h1
      rw [Go.WideShapes.add_plain] at h2
      rw [Nat.add_assoc]
      exact h2

/-- What is left behind by who tells ways, with its row told. -/
def RowsPost (w : World) (l : List Stp) (e : Ending) (w' : World) : Prop := ∃ a c, e = .returned (.slice a l.length c) ∧ StpRow w' a l ∧ c ≤ maxLen ∧ Below w.heap.size w w'
theorem StepsPost.rows {f : FuncId} {vs : Array Value} {t : TypeId} {w : World} {l : List Stp} (h : Calls Try.prog f vs w (StepsPost t w l)) : Calls Try.prog f vs w (RowsPost w l) :=
  h.mono fun e w' ⟨v, he, ho, hB⟩ => by
    obtain ⟨a, c, rfl, hr, hc⟩ := StpRow.of_own ho
    exact ⟨a, c, he, hr, hc, hB⟩
theorem openL_mem (es : List Ed) (node amt : Int) : ∀ k, ∀ s ∈ openL es node amt k, ∃ i : Nat, i < k ∧ (s = stp0 i (es.getD i ed0) ∧ sideE (es.getD i ed0) node = 0 ∧ amt ≤ (es.getD i ed0).c ∨ s = stp1 i (es.getD i ed0) ∧ sideE (es.getD i ed0) node = 1 ∧ amt ≤ (es.getD i ed0).d) := by
  intro k
  induction k with
  | zero => intro s hs; simp [openL] at hs
  | succ k ih =>
    intro s hs
    unfold openL at hs
    rcases List.mem_append.1 hs with hs | hs
    · obtain ⟨i, hi, h⟩ := ih s hs
      exact ⟨i, by omega, h⟩
    · refine ⟨k, by omega, ?_⟩
      unfold stepsAt at hs
      split at hs
      · rename_i h0
        split at hs
        · simp at hs; exact .inl ⟨hs, h0, by assumption⟩
        · simp at hs
      · split at hs
        · rename_i h1
          split at hs
          · simp at hs; exact .inr ⟨hs, h1, by assumption⟩
          · simp at hs
        · simp at hs
theorem stepsL_mem {sl : Nat} {es : List Ed} {node amt : Int} {s : Stp} (hs : s ∈ stepsL sl es node amt) : checkE sl es = 0 ∧ ∃ i : Nat, i < es.length ∧ (s = stp0 i (es.getD i ed0) ∧ sideE (es.getD i ed0) node = 0 ∧ amt ≤ (es.getD i ed0).c ∨ s = stp1 i (es.getD i ed0) ∧ sideE (es.getD i ed0) node = 1 ∧ amt ≤ (es.getD i ed0).d) := by
  unfold stepsL at hs
  split at hs
  · rename_i h0
    exact ⟨h0, openL_mem es node amt _ s hs⟩
  · simp at hs
theorem stepsL_length {sl : Nat} {es : List Ed} {node amt : Int} : (stepsL sl es node amt).length ≤ es.length := by
  unfold stepsL
  split
  · exact openL_length es node amt _
  · simp
theorem stp_mem (l : List Stp) (k : Nat) (hk : k < l.length) : l.getD k stp00 ∈ l := by
  rw [show l.getD k stp00 = l[k] by simp [List.getD, hk]]
  exact List.getElem_mem hk
/-- What one of the ways is: its channel, at whose end the node is. -/
theorem step_at {sl : Nat} {es : List Ed} {node amt : Int} {k : Nat} (hk : k < (stepsL sl es node amt).length) : ∃ (i : Nat) (t c b r : Int), (stepsL sl es node amt).getD k stp00 = ⟨i, t, c, b, r⟩ ∧ i < es.length ∧ (sideE (es.getD i ed0) node = 0 ∨ sideE (es.getD i ed0) node = 1) := by
  obtain ⟨_, i, hi, h | h⟩ := stepsL_mem (stp_mem _ k hk)
  · exact ⟨i, _, _, _, _, h.1, hi, .inl h.2.1⟩
  · exact ⟨i, _, _, _, _, h.1, hi, .inr h.2.1⟩
end Go.Proofs.Ytnnimjaigciedaa
