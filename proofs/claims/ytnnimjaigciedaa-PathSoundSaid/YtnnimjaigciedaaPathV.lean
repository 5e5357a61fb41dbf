/-
  What each route that is found has, in numbers: it leads on, by no node twice, its amounts never rise; none costs less than the best.
-/
import Derived.Test.YtnnimjaigciedaaPathS
namespace Go.Proofs.Ytnnimjaigciedaa
open Go.RowKit
set_option linter.unusedVariables false

theorem eachL_allf {sl : Nat} {es : List Ed} {goal amt : Int} (P : Tr → Prop) (I : Nat → List Int → List Stp → Prop) (hgoal : ∀ f l s, I f l s → lastI l = goal → PayOk amt s → P (l, s)) (hstep : ∀ f l s q, I (f + 1) l s → lastI l ≠ goal → q ∈ stepsL sl es (lastI l) 0 → q.t ∉ l → I f (l ++ [q.t]) (s ++ [q])) :
    ∀ (f : Nat) (l : List Int) (s : List Stp) (acc : List Tr), I f l s → (∀ t ∈ acc, P t) → ∀ t ∈ (eachL sl es goal amt f l s acc).1, P t := by
  have leaf : ∀ (f : Nat) (l : List Int) (s : List Stp) (acc : List Tr), I f l s → lastI l = goal → (∀ t ∈ acc, P t) → ∀ t ∈ ((if PayOk amt s then (acc ++ [(l, s)], decide (acc.length + 1 < 32)) else (acc, true)) : List Tr × Bool).1, P t := by
    intro f l s acc hI hg h t ht
    split at ht
    · rename_i hp
      rcases List.mem_append.1 ht with h1 | h1
      · exact h t h1
      · simp at h1; subst h1; exact hgoal f l s hI hg hp
    · exact h t ht
  intro f
  induction f with
  | zero =>
    intro l s acc hI h
    unfold eachL
    split
    · rename_i hg; exact leaf _ l s acc hI hg h
    · exact h
  | succ f ih =>
    intro l s acc hI h
    unfold eachL
    split
    · rename_i hg; exact leaf _ l s acc hI hg h
    · rename_i hg
      exact goS_all P _ acc (fun q hq hm a ha => ih _ _ a (hstep f l s q hI hg hq hm) ha) h
/-- A trail that leads on from a node, by steps that are there, by no node twice. -/
def Leads (sl : Nat) (es : List Ed) (src : Int) (l : List Int) (s : List Stp) : Prop :=
  l.length = s.length + 1 ∧ l.getD 0 0 = src ∧ l.Nodup ∧ ∀ i, i < s.length → (s.getD i stp00).t = l.getD (i + 1) 0 ∧ s.getD i stp00 ∈ stepsL sl es (l.getD i 0) 0
theorem getD_append_left (l m : List Int) (i : Nat) (h : i < l.length) : (l ++ m).getD i 0 = l.getD i 0 := by
  rw [List.getD_eq_getElem?_getD, List.getD_eq_getElem?_getD, List.getElem?_append_left h]
theorem getD_append_here (l : List Int) (x : Int) : (l ++ [x]).getD l.length 0 = x := by
  rw [List.getD_eq_getElem?_getD, List.getElem?_append_right (Nat.le_refl _)]; simp
theorem sget_append_left (l m : List Stp) (i : Nat) (h : i < l.length) : (l ++ m).getD i stp00 = l.getD i stp00 := by
  rw [List.getD_eq_getElem?_getD, List.getD_eq_getElem?_getD, List.getElem?_append_left h]
theorem sget_append_here (l : List Stp) (x : Stp) : (l ++ [x]).getD l.length stp00 = x := by
  rw [List.getD_eq_getElem?_getD, List.getElem?_append_right (Nat.le_refl _)]; simp
theorem Leads.start (sl : Nat) (es : List Ed) (src : Int) : Leads sl es src [src] [] := ⟨rfl, rfl, by simp, fun i hi => by simp at hi⟩
theorem Leads.step {sl : Nat} {es : List Ed} {src : Int} {l : List Int} {s : List Stp} {q : Stp} (h : Leads sl es src l s) (hq : q ∈ stepsL sl es (lastI l) 0) (hn : q.t ∉ l) : Leads sl es src (l ++ [q.t]) (s ++ [q]) := by
  obtain ⟨h1, h2, h3, h4⟩ := h
  refine ⟨by simp [h1], ?_, ?_, ?_⟩
  · rw [getD_append_left _ _ _ (by omega)]; exact h2
  · rw [List.nodup_append]
    refine ⟨h3, by simp, ?_⟩
    intro a ha b hb e
    simp at hb
    subst hb; subst e
    exact hn ha
  · intro i hi
    simp at hi
    by_cases hl : i < s.length
    · rw [sget_append_left _ _ _ hl, getD_append_left _ _ _ (by omega), getD_append_left _ _ _ (by omega)]
      exact h4 i hl
    · have e : i = s.length := by omega
      subst e
      rw [sget_append_here, ← h1, getD_append_here, getD_append_left _ _ _ (by omega)]
      refine ⟨rfl, ?_⟩
      have : lastI l = l.getD s.length 0 := by unfold lastI; rw [h1]; rfl
      rw [this] at hq
      exact hq
/-- What a route that is found has. -/
structure Sound (sl : Nat) (es : List Ed) (src goal amt : Int) (t : Tr) : Prop where
  leads : Leads sl es src t.1 t.2
  few : t.2.length ≤ 7
  last : lastI t.1 = goal
  pay : PayOk amt t.2
theorem way_sound (sl : Nat) (es : List Ed) (src goal amt : Int) : ∀ t ∈ wayL sl es src goal amt, Sound sl es src goal amt t := by
  unfold wayL
  refine eachL_allf (Sound sl es src goal amt) (fun f l s => Leads sl es src l s ∧ s.length + f ≤ 7) ?_ ?_ 7 [src] [] [] ⟨Leads.start sl es src, by simp⟩ (fun t h => by simp at h)
  · intro f l s h hg hp
    exact ⟨h.1, by have := h.2; simp; omega, hg, hp⟩
  · intro f l s q h hg hq hn
    exact ⟨h.1.step hq hn, by have := h.2; simp; omega⟩
/-- What the channel of a step is. -/
theorem Leads.edge {sl : Nat} {es : List Ed} {src : Int} {l : List Int} {s : List Stp} (h : Leads sl es src l s) {i : Nat} (hi : i < s.length) : ∃ (k : Nat) (e : Ed), k < es.length ∧ es.getD k ed0 = e ∧ (s.getD i stp00).e = (k : Int) ∧ ((sideE e (l.getD i 0) = 0 ∧ e.q = l.getD (i + 1) 0 ∧ e.c = (s.getD i stp00).c) ∨ (sideE e (l.getD i 0) = 1 ∧ e.p = l.getD (i + 1) 0 ∧ e.d = (s.getD i stp00).c)) := by
  obtain ⟨h1, h2⟩ := h.2.2.2 i hi
  obtain ⟨_, k, hk, h3⟩ := stepsL_mem h2
  refine ⟨k, es.getD k ed0, hk, rfl, ?_⟩
  rw [← h1]
  rcases h3 with ⟨e, hs, _⟩ | ⟨e, hs, _⟩
  · rw [e]; exact ⟨rfl, .inl ⟨hs, rfl, rfl⟩⟩
  · rw [e]; exact ⟨rfl, .inr ⟨hs, rfl, rfl⟩⟩
theorem over_ge {b r x : Int} (hb : Word b) (hr : Word r) (hx : Word x) (h : Mon.overE b r x = 0) : x ≤ Mon.overV b r x := by
  have hw : Mon.Word (Mon.ofV b r x) := Mon.ofV_word hb hr hx
  unfold Mon.overE at h
  unfold Mon.overV
  split at h
  · rename_i h1; exact absurd h h1
  · rename_i h1
    rw [if_neg h1]
    unfold Mon.addE at h
    unfold Mon.addV
    split at h
    · rename_i h2; rw [if_pos h2]; have := hw.1; omega
    · omega
theorem back_falls {x : Int} (hx : Word x) : ∀ fs : List (Int × Int), (∀ f ∈ fs, Word f.1 ∧ Word f.2) → (Mon.backE x fs).1 = 0 → (∀ i, i < fs.length → (Mon.backE x fs).2.getD (i + 1) 0 ≤ (Mon.backE x fs).2.getD i 0) ∧ (Mon.backE x fs).2.getD fs.length 0 = x ∧ (Mon.backE x fs).2.length = fs.length + 1 := by
  intro fs
  induction fs with
  | nil => intro _ _; exact ⟨fun i hi => by simp at hi, rfl, rfl⟩
  | cons f r ih =>
    intro hw h
    have hwr : ∀ f ∈ r, Word f.1 ∧ Word f.2 := fun g hg => hw g (List.mem_cons_of_mem _ hg)
    obtain ⟨hB, _, _, _⟩ := Mon.backE_word x r hx hwr
    cases hb : Mon.backE x r with
    | mk e l =>
      rw [hb] at hB
      simp only at hB
      unfold Mon.backE at h ⊢
      rw [hb] at h ⊢
      simp only at h ⊢
      split at h
      · rename_i h1; exact absurd h h1
      · rename_i h1
        rw [if_neg h1]
        split at h
        · rename_i h2; exact absurd h h2
        · rename_i h2
          rw [if_neg h2]
          have h0 : (Mon.backE x r).1 = 0 := by rw [hb]; simpa using h1
          obtain ⟨i1, i2, i3⟩ := ih hwr h0
          rw [hb] at i1 i2 i3
          simp only at i1 i2 i3
          have hf := hw f (by simp)
          have hl0 : l.headD 0 = l.getD 0 0 := by cases l <;> rfl
          have hWl : Word (l.headD 0) := by
            cases l with
            | nil => simp at i3
            | cons a t => exact hB a (by simp)
          refine ⟨?_, ?_, by simp [i3]⟩
          · intro i hi
            cases i with
            | zero =>
              show l.getD 0 0 ≤ _
              rw [← hl0]
              exact over_ge hf.1 hf.2 hWl (by simpa using h2)
            | succ i =>
              simp at hi
              exact i1 i hi
          · simpa using i2
/-- The amounts of a route: they never rise, and the last one is what is to arrive. -/
theorem amts_falls {amt : Int} {s : List Stp} (ha : Word amt) (h : ∀ q ∈ s, Word q.b ∧ Word q.r) (h0 : 0 < s.length) (h1 : (amtsE amt s).1 = 0) : (∀ i, 0 < i → i < s.length → (amtsE amt s).2.getD i 0 ≤ (amtsE amt s).2.getD (i - 1) 0) ∧ (amtsE amt s).2.getD (s.length - 1) 0 = amt := by
  obtain ⟨a, b, c⟩ := back_falls ha (feesL s) (feesL_word h) h1
  rw [feesL_length] at a b
  refine ⟨?_, b⟩
  intro i h2 h3
  have := a (i - 1) (by omega)
  rw [show i - 1 + 1 = i from by omega] at this
  exact this
theorem amts_first {amt : Int} {s : List Stp} (ha : Word amt) (h : ∀ q ∈ s, Word q.b ∧ Word q.r) (h0 : 0 < s.length) (h1 : (amtsE amt s).1 = 0) : amt ≤ (amtsE amt s).2.getD 0 0 := by
  obtain ⟨a, b⟩ := amts_falls ha h h0 h1
  have : ∀ k, k < s.length → (amtsE amt s).2.getD k 0 ≤ (amtsE amt s).2.getD 0 0 := by
    intro k
    induction k with
    | zero => intro _; exact Int.le_refl _
    | succ k ih =>
      intro hk
      have := a (k + 1) (by omega) hk
      have := ih (by omega)
      simp at *
      omega
  have := this (s.length - 1) (by omega)
  omega
theorem amts_word {amt : Int} {s : List Stp} (ha : Word amt) (h : ∀ q ∈ s, Word q.b ∧ Word q.r) (i : Nat) : Word ((amtsE amt s).2.getD i 0) := by
  obtain ⟨a, _⟩ := Mon.backE_word amt (feesL s) ha (feesL_word h)
  by_cases hi : i < (amtsE amt s).2.length
  · rw [List.getD_eq_getElem?_getD, List.getElem?_eq_getElem hi]
    exact a _ (List.getElem_mem _)
  · rw [List.getD_eq_getElem?_getD, List.getElem?_eq_none (by omega)]
    exact ⟨by decide, by decide⟩
theorem bestF_le (amt : Int) : ∀ (L : List Tr) (m : Tr), firstE amt (bestF amt m L) ≤ firstE amt m ∧ ∀ t ∈ L, firstE amt (bestF amt m L) ≤ firstE amt t := by
  intro L
  induction L with
  | nil => intro m; exact ⟨Int.le_refl _, fun t h => by simp at h⟩
  | cons q r ih =>
    intro m
    have hlt : lessE amt q m < 0 → firstE amt q ≤ firstE amt m := by
      unfold lessE orE cmpE
      intro h
      by_cases h1 : firstE amt q < firstE amt m
      · omega
      · by_cases h2 : firstE amt m < firstE amt q
        · simp [h1, h2] at h
        · omega
    have hge : ¬ lessE amt q m < 0 → firstE amt m ≤ firstE amt q := by
      unfold lessE orE cmpE
      intro h
      by_cases h1 : firstE amt q < firstE amt m
      · simp [h1] at h
      · omega
    unfold bestF
    split
    · rename_i h
      obtain ⟨a, b⟩ := ih q
      refine ⟨Int.le_trans a (hlt h), ?_⟩
      intro t ht
      rcases List.mem_cons.1 ht with rfl | ht
      · exact a
      · exact b t ht
    · rename_i h
      obtain ⟨a, b⟩ := ih m
      refine ⟨a, ?_⟩
      intro t ht
      rcases List.mem_cons.1 ht with rfl | ht
      · exact Int.le_trans a (hge h)
      · exact b t ht
theorem bestL_le (amt : Int) (L : List Tr) : ∀ t ∈ L, firstE amt (bestL amt L) ≤ firstE amt t := by
  cases L with
  | nil => intro t h; simp at h
  | cons q r =>
    intro t ht
    obtain ⟨a, b⟩ := bestF_le amt r q
    rcases List.mem_cons.1 ht with rfl | ht
    · exact a
    · exact b t ht
/-- The nodes seen so far, and the next one. -/
theorem nodup_at {l : List Int} (h : l.Nodup) {i : Nat} (hi : i < l.length) : l.getD i 0 ∉ l.take i := by
  intro hm
  obtain ⟨j, hj, he⟩ := List.getElem_of_mem hm
  have hj2 : j < i := by simp at hj; omega
  rw [List.getElem_take] at he
  rw [List.getD_eq_getElem?_getD, List.getElem?_eq_getElem hi] at he
  simp at he
  exact List.pairwise_iff_getElem.1 h j i (by omega) hi hj2 he
end Go.Proofs.Ytnnimjaigciedaa
