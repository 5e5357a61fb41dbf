/-
  To which nodes a way leads, in numbers: what is closed under ways, how many nodes there are, lists that rise.
-/
import Derived.Test.YtnnimjaigciedaaWebSw
import Derived.Test.YtnnimjaigciedaaPathF
namespace Go.Proofs.Ytnnimjaigciedaa
open Go.RowKit
set_option linter.unusedVariables false

/-- A way that can send the amount leads from x to y. -/
def Nx (es : List Ed) (amt x y : Int) : Prop := ∃ s ∈ openL es x amt es.length, s.t = y
/-- To which nodes ways lead from a node. -/
inductive Rch (es : List Ed) (amt node : Int) : Int → Prop
  | here : Rch es amt node node
  | step {x y : Int} : Rch es amt node x → Nx es amt x y → Rch es amt node y

theorem openL_amt (es : List Ed) (x amt : Int) (hok : ∀ e ∈ es, EdOk e) : ∀ k, k ≤ es.length → ∀ s, s ∈ openL es x amt k ↔ (s ∈ openL es x 0 k ∧ amt ≤ s.c) := by
  intro k
  induction k with
  | zero => intro _ s; simp [openL]
  | succ k ih =>
    intro hk s
    unfold openL
    rw [List.mem_append, List.mem_append, ih (by omega) s]
    have he : es.getD k ed0 ∈ es := by
      rw [List.getD_eq_getElem?_getD, List.getElem?_eq_getElem (by omega)]
      exact List.getElem_mem _
    obtain ⟨_, _, hc, hd, _⟩ := hok _ he
    have h0 := hc.1
    have h1 := hd.1
    have : s ∈ stepsAt (es.getD k ed0) k x amt ↔ s ∈ stepsAt (es.getD k ed0) k x 0 ∧ amt ≤ s.c := by
      unfold stepsAt
      split
      · by_cases h : amt ≤ (es.getD k ed0).c
        · rw [if_pos h]
          simp only [List.mem_singleton]
          constructor
          · rintro rfl; exact ⟨rfl, h⟩
          · exact fun h => h.1
        · rw [if_neg h]
          simp only [List.not_mem_nil, List.mem_singleton, false_iff]
          rintro ⟨rfl, h2⟩
          exact h h2
      · split
        · by_cases h : amt ≤ (es.getD k ed0).d
          · rw [if_pos h]
            simp only [List.mem_singleton]
            constructor
            · rintro rfl; exact ⟨rfl, h⟩
            · exact fun h => h.1
          · rw [if_neg h]
            simp only [List.not_mem_nil, List.mem_singleton, false_iff]
            rintro ⟨rfl, h2⟩
            exact h h2
        · simp
    rw [this]
    constructor
    · rintro (⟨a, b⟩ | ⟨a, b⟩)
      · exact ⟨.inl a, b⟩
      · exact ⟨.inr a, b⟩
    · rintro ⟨a | a, b⟩
      · exact .inl ⟨a, b⟩
      · exact .inr ⟨a, b⟩

theorem nx_range {sl : Nat} {es : List Ed} {amt x y : Int} (hg : AllGood sl es) (h : Nx es amt x y) : 0 ≤ y ∧ y < (sl : Int) := by
  obtain ⟨s, hs, rfl⟩ := h
  obtain ⟨i, hi, h⟩ := openL_mem es x amt es.length s hs
  have he : es.getD i ed0 ∈ es := by
    rw [List.getD_eq_getElem?_getD, List.getElem?_eq_getElem (by omega)]
    exact List.getElem_mem _
  obtain ⟨hp, hq, _⟩ := hg _ he
  rcases h with ⟨rfl, _⟩ | ⟨rfl, _⟩
  · exact hq
  · exact hp
theorem rch_range {sl : Nat} {es : List Ed} {amt node x : Int} (hg : AllGood sl es) (hn : 0 ≤ node ∧ node < (sl : Int)) (h : Rch es amt node x) : 0 ≤ x ∧ x < (sl : Int) := by
  cases h with
  | here => exact hn
  | step _ h => exact nx_range hg h

/-- Different numbers below n: at most n. -/
theorem few (n : Nat) : ∀ l : List Int, l.Nodup → (∀ x ∈ l, 0 ≤ x ∧ x < (n : Int)) → l.length ≤ n := by
  induction n with
  | zero =>
    intro l _ h
    cases l with
    | nil => simp
    | cons a t => have := h a (by simp); omega
  | succ n ih =>
    intro l hn h
    by_cases hm : (n : Int) ∈ l
    · have h1 := List.length_erase_of_mem hm
      have h2 := ih (l.erase (n : Int)) (hn.erase _) (fun x hx => by
        have h3 := (hn.mem_erase_iff).1 hx
        have := h x h3.2
        omega)
      omega
    · have := ih l hn (fun x hx => by
        have := h x hx
        have : x ≠ n := fun e => hm (e ▸ hx)
        omega)
      omega

/-- What rises is told by what is in it. -/
theorem rising_eq : ∀ l m : List Int, l.Pairwise (· < ·) → m.Pairwise (· < ·) → (∀ x, x ∈ l ↔ x ∈ m) → l = m := by
  intro l
  induction l with
  | nil =>
    intro m _ _ h
    cases m with
    | nil => rfl
    | cons b t => have := (h b).2 (by simp); simp at this
  | cons a t ih =>
    intro m hl hm h
    cases m with
    | nil => have := (h a).1 (by simp); simp at this
    | cons b u =>
      rw [List.pairwise_cons] at hl hm
      have hab : a = b := by
        have h1 := (h a).1 (by simp)
        have h2 := (h b).2 (by simp)
        rcases List.mem_cons.1 h1 with h1 | h1
        · exact h1
        · rcases List.mem_cons.1 h2 with h2 | h2
          · exact h2.symm
          · have := hl.1 b h2
            have := hm.1 a h1
            omega
      subst hab
      rw [ih u hl.2 hm.2 (fun x => by
        constructor
        · intro hx
          rcases List.mem_cons.1 ((h x).1 (List.mem_cons_of_mem _ hx)) with e | h9
          · have := hl.1 x hx; omega
          · exact h9
        · intro hx
          rcases List.mem_cons.1 ((h x).2 (List.mem_cons_of_mem _ hx)) with e | h9
          · have := hm.1 x hx; omega
          · exact h9)]
/-- Sorted, what holds nothing twice rises. -/
theorem sorted_rises (l : List Int) (hn : l.Nodup) : (l.mergeSort fun x y => decide (x ≤ y)).Pairwise (· < ·) ∧ ∀ x, x ∈ (l.mergeSort fun x y => decide (x ≤ y)) ↔ x ∈ l := by
  have hp := List.mergeSort_perm l (fun x y => decide (x ≤ y))
  have hs : (l.mergeSort fun x y => decide (x ≤ y)).Pairwise (fun x y => decide (x ≤ y) = true) := List.pairwise_mergeSort (le := fun x y => decide (x ≤ y)) (fun a b c h1 h2 => by simp at *; omega) (fun a b => by simp; omega) l
  have hd : (l.mergeSort fun x y => decide (x ≤ y)).Nodup := hp.nodup_iff.2 hn
  refine ⟨?_, fun x => hp.mem_iff⟩
  have := hs.and hd
  exact this.imp (fun {a b} h => by have h1 := h.1; have h2 := h.2; simp at h1; omega)

/-- What the program's Reach answers. -/
def ReachP (es : List Ed) (amt node : Int) (l : List Int) : Prop := l.Pairwise (· < ·) ∧ ∀ x, x ∈ l ↔ Rch es amt node x
theorem ReachP.eq {es : List Ed} {amt node : Int} {l m : List Int} (h : ReachP es amt node l) (k : ReachP es amt node m) : l = m := rising_eq l m h.1 k.1 (fun x => (h.2 x).trans (k.2 x).symm)

/-- How many are in. -/
def cnt : List Bool → Nat
  | [] => 0
  | b :: t => (if b then 1 else 0) + cnt t
theorem cnt_le (l : List Bool) : cnt l ≤ l.length := by
  induction l with
  | nil => exact Nat.le_refl _
  | cons b t ih => unfold cnt; rw [List.length_cons]; split <;> omega
theorem cnt_mono : ∀ l m : List Bool, l.length = m.length → (∀ i : Nat, l.getD i false = true → m.getD i false = true) → cnt l ≤ cnt m := by
  intro l
  induction l with
  | nil => intro m h _; unfold cnt; omega
  | cons b t ih =>
    intro m h hi
    cases m with
    | nil => simp at h
    | cons c u =>
      have h1 := ih u (by simpa using h) (fun i hx => by have := hi (i + 1); simpa using this (by simpa using hx))
      have h2 := hi 0
      simp at h2
      unfold cnt
      cases b <;> cases c <;> simp_all <;> omega
theorem cnt_lt : ∀ l m : List Bool, l.length = m.length → (∀ i : Nat, l.getD i false = true → m.getD i false = true) → (∃ i : Nat, l.getD i false = false ∧ m.getD i false = true) → cnt l < cnt m := by
  intro l
  induction l with
  | nil =>
    intro m h _ ⟨i, _, h2⟩
    cases m with
    | nil => simp at h2
    | cons c u => simp at h
  | cons b t ih =>
    intro m h hi ⟨i, h3, h4⟩
    cases m with
    | nil => simp at h
    | cons c u =>
      have hsub : ∀ i : Nat, t.getD i false = true → u.getD i false = true := fun i hx => by have := hi (i + 1); simpa using this (by simpa using hx)
      have hlen : t.length = u.length := by simpa using h
      have h2 := hi 0
      simp at h2
      cases i with
      | zero =>
        simp at h3 h4
        subst h3 h4
        have := cnt_mono t u hlen hsub
        unfold cnt
        simp; omega
      | succ i =>
        have := ih u hlen hsub ⟨i, by simpa using h3, by simpa using h4⟩
        unfold cnt
        cases b <;> cases c <;> simp_all <;> omega

/-- Which nodes are in. -/
def inB (bs : List Bool) (x : Int) : Prop := 0 ≤ x ∧ bs.getD x.toNat false = true
theorem inB_nat (bs : List Bool) (n : Nat) : inB bs (n : Int) ↔ bs.getD n false = true := ⟨fun h => by simpa using h.2, fun h => ⟨by omega, by simpa using h⟩⟩
def Shut (es : List Ed) (amt : Int) (bs : List Bool) : Prop := ∀ x y, inB bs x → Nx es amt x y → inB bs y
theorem shut_rch {es : List Ed} {amt node : Int} {bs : List Bool} (h : Shut es amt bs) (hn : inB bs node) : ∀ x, Rch es amt node x → inB bs x := by
  intro x hx
  induction hx with
  | here => exact hn
  | step _ h2 ih => exact h _ _ ih h2
theorem in_set (bs : List Bool) (y : Nat) (hy : y < bs.length) (x : Int) : inB (bs.set y true) x ↔ (inB bs x ∨ x = (y : Int)) := by
  unfold inB
  constructor
  · rintro ⟨h0, h1⟩
    by_cases e : x = (y : Int)
    · exact .inr e
    · have : x.toNat ≠ y := by omega
      left
      refine ⟨h0, ?_⟩
      rw [List.getD_eq_getElem?_getD, List.getElem?_set_ne (by omega)] at h1
      rw [List.getD_eq_getElem?_getD]; exact h1
  · rintro (⟨h0, h1⟩ | rfl)
    · refine ⟨h0, ?_⟩
      rw [List.getD_eq_getElem?_getD, List.getElem?_set]
      split
      · rfl
      · rw [← List.getD_eq_getElem?_getD]; exact h1
    · refine ⟨by omega, ?_⟩
      rw [List.getD_eq_getElem?_getD, show (y : Int).toNat = y by omega, List.getElem?_set_self hy]
      rfl
theorem set_same (bs : List Bool) (y : Nat) (h : bs.getD y false = true) : bs.set y true = bs := by
  apply List.ext_getElem?
  intro i
  rw [List.getElem?_set]
  split
  · rename_i e
    subst e
    rw [List.getD_eq_getElem?_getD] at h
    split
    · rename_i hlt
      rw [List.getElem?_eq_getElem hlt] at h ⊢
      simp at h
      rw [h]
    · rename_i hlt
      rw [List.getElem?_eq_none (by omega)]
  · rfl
end Go.Proofs.Ytnnimjaigciedaa
