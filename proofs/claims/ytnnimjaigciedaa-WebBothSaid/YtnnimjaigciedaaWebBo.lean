/-
  What both ends have, in numbers: how often a step is there; a list that rises within another.
-/
import Derived.Test.YtnnimjaigciedaaWebNh
import Derived.Test.YtnnimjaigciedaaWebAw
namespace Go.Proofs.Ytnnimjaigciedaa
open Go.RowKit
set_option linter.unusedVariables false

/-- A step along channel i to t, of which c can be sent. -/
def hitB (i t c : Int) (s : Stp) : Bool := decide (s.e = i ∧ s.t = t ∧ s.c = c)
theorem at_edge (e : Ed) (k : Nat) (n amt : Int) : ∀ s ∈ stepsAt e k n amt, s.e = (k : Int) := by
  intro s hs
  unfold stepsAt at hs
  split at hs
  · split at hs
    · simp at hs; subst hs; rfl
    · simp at hs
  · split at hs
    · split at hs
      · simp at hs; subst hs; rfl
      · simp at hs
    · simp at hs
theorem hits_open (es : List Ed) (n : Int) (i : Nat) (t c b r : Int) (hs : stepsAt (es.getD i ed0) i n 0 = [⟨(i : Int), t, c, b, r⟩]) :
    ∀ k, (openL es n 0 k).countP (hitB i t c) = if i < k then 1 else 0 := by
  intro k
  induction k with
  | zero => simp [openL]
  | succ k ih =>
    unfold openL
    rw [List.countP_append, ih]
    by_cases e : i = k
    · subst e
      rw [hs, if_neg (by omega), if_pos (by omega)]
      simp [hitB]
    · have h0 : (stepsAt (es.getD k ed0) k n 0).countP (hitB i t c) = 0 := by
        rw [List.countP_eq_zero]
        intro s hs2
        have h1 := at_edge _ _ _ _ s hs2
        unfold hitB
        intro h
        have h2 := (of_decide_eq_true h).1
        omega
      rw [h0]
      by_cases h : i < k
      · rw [if_pos h, if_pos (by omega)]
      · rw [if_neg h, if_neg (by omega)]
theorem good_at {sl : Nat} {es : List Ed} (hc : checkE sl es = 0) : AllGood sl es ∧ sl ≤ 8 ∧ es.length ≤ 16 := by
  unfold checkE at hc
  split at hc
  · cases hc
  · rename_i h
    split at hc
    · rename_i h2; exact ⟨h2, by omega, by omega⟩
    · cases hc
theorem edge_mem {es : List Ed} {i : Nat} (hi : i < es.length) : es.getD i ed0 ∈ es := by
  rw [List.getD_eq_getElem?_getD, List.getElem?_eq_getElem hi]
  exact List.getElem_mem _
theorem hits_p {sl : Nat} {es : List Ed} {i : Nat} {e : Ed} (hc : checkE sl es = 0) (hok : ∀ e ∈ es, EdOk e) (hi : i < es.length) (he : es.getD i ed0 = e) : (stepsL sl es e.p 0).countP (hitB i e.q e.c) = 1 := by
  have hm := edge_mem hi
  have h1 := (hok _ hm).2.2.1.1
  rw [he] at h1
  unfold stepsL
  rw [if_pos hc, hits_open es e.p i e.q e.c e.f e.g ?_ es.length, if_pos hi]
  rw [he]
  unfold stepsAt sideE
  rw [if_pos (by rw [if_pos rfl]), if_pos h1]
  rfl
theorem hits_q {sl : Nat} {es : List Ed} {i : Nat} {e : Ed} (hc : checkE sl es = 0) (hok : ∀ e ∈ es, EdOk e) (hi : i < es.length) (he : es.getD i ed0 = e) : (stepsL sl es e.q 0).countP (hitB i e.p e.d) = 1 := by
  have hm := edge_mem hi
  have h1 := (hok _ hm).2.2.2.1.1
  have hne := ((good_at hc).1 _ hm).2.2
  rw [he] at h1 hne
  unfold stepsL
  rw [if_pos hc, hits_open es e.q i e.p e.d e.h e.i ?_ es.length, if_pos hi]
  rw [he]
  have hsd : sideE e e.q = 1 := by unfold sideE; rw [if_neg hne, if_pos rfl]
  unfold stepsAt
  rw [hsd, if_neg (by decide), if_pos rfl, if_pos h1]
  rfl
theorem hit_step {S : List Stp} {j : Nat} {s : Stp} (hj : j < S.length) (hs : S.getD j stp00 = s) {i t c : Int} {a : Nat} (h : a + (S.drop j).countP (hitB i t c) = 1) :
    ((s.e = i ∧ s.t = t ∧ s.c = c) → (a + 1) + (S.drop (j + 1)).countP (hitB i t c) = 1) ∧ (¬ (s.e = i ∧ s.t = t ∧ s.c = c) → a + (S.drop (j + 1)).countP (hitB i t c) = 1) := by
  have hd : S.drop j = s :: S.drop (j + 1) := by
    rw [List.drop_eq_getElem_cons hj]
    congr 1
    rw [List.getD_eq_getElem?_getD, List.getElem?_eq_getElem hj] at hs
    exact hs
  rw [hd, List.countP_cons] at h
  refine ⟨fun k => ?_, fun k => ?_⟩
  · rw [if_pos (by unfold hitB; exact decide_eq_true k)] at h; omega
  · rw [if_neg (by unfold hitB; simpa using k)] at h; omega

/-- What is left of the one lies in what is left of the other. -/
def Rest (m l : List Int) (a j : Nat) : Prop := a ≤ m.length ∧ ∀ x ∈ m.drop a, x ∈ l.drop j
theorem drop_at {l : List Int} {j : Nat} {x : Int} (hj : j < l.length) (hx : l.getD j 0 = x) : l.drop j = x :: l.drop (j + 1) := by
  rw [List.drop_eq_getElem_cons hj]
  congr 1
  rw [List.getD_eq_getElem?_getD, List.getElem?_eq_getElem hj] at hx
  exact hx
theorem Rest.step {m l : List Int} {a j : Nat} {x : Int} (h : Rest m l a j) (hm : m.Pairwise (· < ·)) (hl : l.Pairwise (· < ·)) (hj : j < l.length) (hx : l.getD j 0 = x) :
    (a < m.length → m.getD a 0 = x → Rest m l (a + 1) (j + 1)) ∧ (a < m.length → m.getD a 0 ≠ x → Rest m l a (j + 1)) ∧ (¬ a < m.length → Rest m l a (j + 1)) := by
  have hd := drop_at hj hx
  have hL : (x :: l.drop (j + 1)).Pairwise (· < ·) := by rw [← hd]; exact hl.drop
  rw [List.pairwise_cons] at hL
  refine ⟨fun ha hy => ?_, fun ha hy => ?_, fun ha => ?_⟩
  · have hb := drop_at ha hy
    have hM : (x :: m.drop (a + 1)).Pairwise (· < ·) := by rw [← hb]; exact hm.drop
    rw [List.pairwise_cons] at hM
    refine ⟨ha, fun z hz => ?_⟩
    have h1 := h.2 z (by rw [hb]; exact List.mem_cons_of_mem _ hz)
    rw [hd] at h1
    rcases List.mem_cons.1 h1 with e | h2
    · have := hM.1 z hz; omega
    · exact h2
  · obtain ⟨y, hyy⟩ : ∃ y, m.getD a 0 = y := ⟨_, rfl⟩
    rw [hyy] at hy
    have hb := drop_at ha hyy
    have hM : (y :: m.drop (a + 1)).Pairwise (· < ·) := by rw [← hb]; exact hm.drop
    rw [List.pairwise_cons] at hM
    have h0 := h.2 y (by rw [hb]; simp)
    rw [hd] at h0
    have hxy : x < y := by
      rcases List.mem_cons.1 h0 with e | h2
      · exact absurd e hy
      · exact hL.1 y h2
    refine ⟨h.1, fun z hz => ?_⟩
    have h1 := h.2 z hz
    rw [hd] at h1
    rcases List.mem_cons.1 h1 with e | h2
    · rw [hb] at hz
      rcases List.mem_cons.1 hz with e2 | h3
      · omega
      · have := hM.1 z h3; omega
    · exact h2
  · have : m.drop a = [] := List.drop_eq_nil_of_le (by omega)
    refine ⟨h.1, fun z hz => ?_⟩
    rw [this] at hz
    simp at hz
theorem Rest.all {m l : List Int} {a : Nat} (h : Rest m l a l.length) : a = m.length := by
  rcases Nat.lt_or_ge a m.length with h1 | h1
  · have h2 := h.2 (m.getD a 0) (by rw [drop_at h1 rfl]; exact List.mem_cons_self)
    rw [List.drop_length] at h2
    simp at h2
  · have := h.1; omega
theorem rch_less {es : List Ed} {amt less node x : Int} (hok : ∀ e ∈ es, EdOk e) (hle : less ≤ amt) (h : Rch es amt node x) : Rch es less node x := by
  induction h with
  | here => exact .here
  | step _ h2 ih =>
    refine .step ih ?_
    obtain ⟨s, hs, e⟩ := h2
    rw [openL_amt es _ amt hok es.length (Nat.le_refl _)] at hs
    exact ⟨s, (openL_amt es _ less hok es.length (Nat.le_refl _) s).2 ⟨hs.1, by have := hs.2; omega⟩, e⟩
theorem reach_rises {sl : Nat} {es : List Ed} {node amt : Int} {l : List Int} (h : ReachL sl es node amt l) : l.Pairwise (· < ·) := by
  unfold ReachL at h
  split at h
  · exact h.1
  · rw [h]; exact .nil
/-- By more one reaches within what one reaches by less. -/
theorem reach_rest {sl : Nat} {es : List Ed} {node amt less : Int} {l m : List Int} (hok : ∀ e ∈ es, EdOk e) (hle : less ≤ amt) (hl : ReachL sl es node less l) (hm : ReachL sl es node amt m) : Rest m l 0 0 := by
  refine ⟨Nat.zero_le _, fun x hx => ?_⟩
  simp only [List.drop_zero] at hx ⊢
  unfold ReachL at hl hm
  split at hl
  · rename_i hb
    rw [if_pos hb] at hm
    exact (hl.2 x).2 (rch_less hok hle ((hm.2 x).1 hx))
  · rename_i hb
    rw [if_neg hb] at hm
    rw [hm] at hx
    simp at hx
theorem reach_self {sl : Nat} {es : List Ed} {node amt : Int} {l : List Int} (hc : checkE sl es = 0) (hn : 0 ≤ node ∧ node < (sl : Int)) (h : ReachL sl es node amt l) : node ∈ l := by
  unfold ReachL at h
  rw [if_pos (show reaB sl es node = true from decide_eq_true ⟨hc, hn⟩)] at h
  exact (h.2 node).2 .here
theorem reach_none {sl : Nat} {es : List Ed} {node amt : Int} {l : List Int} (hc : checkE sl es ≠ 0) (h : ReachL sl es node amt l) : l.length = 0 := by
  unfold ReachL at h
  rw [if_neg (show ¬ reaB sl es node = true from fun k => hc (of_decide_eq_true k).1)] at h
  rw [h]; rfl
theorem self_step {l : List Int} {j : Nat} {x node : Int} {sB : Bool} (hj : j < l.length) (hx : l.getD j 0 = x) (h : sB = true ∨ node ∈ l.drop j) : (x = node → True) ∧ (x ≠ node → sB = true ∨ node ∈ l.drop (j + 1)) := by
  refine ⟨fun _ => trivial, fun k => ?_⟩
  rcases h with h | h
  · exact .inl h
  · rw [drop_at hj hx] at h
    rcases List.mem_cons.1 h with e | h2
    · exact absurd e.symm k
    · exact .inr h2
end Go.Proofs.Ytnnimjaigciedaa
