/-
  What is kept and given back, or moved there and back, leaves all as it was: plain lists and numbers.
-/
import Derived.Test.YtbopnijekafogaaTillD
namespace Go.Proofs.Ytbopnijekafogaa
set_option linter.unusedVariables false

theorem sumGo_le (xs : List Int) : ∀ s, s ≤ 18446744073709551615 → (sumGo s xs).2 = 0 → s + xs.sum ≤ 18446744073709551615 := by
  induction xs with
  | nil => intro s hs _; simpa using hs
  | cons a r ih =>
    intro s hs h
    rw [sumGo] at h
    by_cases h0 : addE s a = 0
    · rw [if_pos h0] at h
      have h1 : s + a < 18446744073709551616 := by
        unfold addE at h0
        split at h0
        · assumption
        · cases h0
      have h2 : addV s a = s + a := if_pos h1
      rw [h2] at h
      have := ih (s + a) (by omega) h
      rw [List.sum_cons]
      omega
    · rw [if_neg h0] at h
      cases h
theorem one_le (xs : List Int) (h : ∀ n ∈ xs, Word n) : ∀ i, 0 ≤ xs.getD i 0 ∧ xs.getD i 0 ≤ xs.sum ∧ 0 ≤ xs.sum := by
  induction xs with
  | nil => intro i; simp
  | cons a r ih =>
    intro i
    have ha := (h a (by simp)).1
    have ih := ih fun n hn => h n (by simp [hn])
    have h0 := (ih 0).2.2
    rw [List.sum_cons]
    match i with
    | 0 => simp; omega
    | i + 1 =>
      have := ih i
      simp only [List.getD_cons_succ]
      omega
theorem two_le (xs : List Int) (h : ∀ n ∈ xs, Word n) : ∀ i j, i < j → xs.getD i 0 + xs.getD j 0 ≤ xs.sum := by
  induction xs with
  | nil => intro i j _; simp
  | cons a r ih =>
    intro i j hij
    have hr : ∀ n ∈ r, Word n := fun n hn => h n (by simp [hn])
    have ha := (h a (by simp)).1
    rw [List.sum_cons]
    match i, j, hij with
    | 0, j + 1, _ =>
      have := (one_le r hr j).2.1
      simp only [List.getD_cons_succ, List.getD_cons_zero]
      omega
    | i + 1, j + 1, hij =>
      have := ih hr i j (by omega)
      simp only [List.getD_cons_succ]
      omega
theorem two_fit {xs : List Int} (h : ∀ n ∈ xs, Word n) (hs : sumE xs = 0) {i j : Nat} (hij : i ≠ j) : xs.getD i 0 + xs.getD j 0 ≤ 18446744073709551615 := by
  have h1 := sumGo_le xs 0 (by omega) hs
  rcases Nat.lt_or_gt_of_ne hij with h2 | h2
  · have := two_le xs h i j h2; omega
  · have := two_le xs h j i h2; omega

/-- Accounts that just began. -/
def fresh (xs : List Int) : List (Int × Int) := xs.map fun x => (x, (0 : Int))
theorem fresh_length (xs : List Int) : (fresh xs).length = xs.length := List.length_map ..
theorem fresh_getD (xs : List Int) (k : Nat) : (fresh xs).getD k (0, 0) = (xs.getD k 0, 0) := by
  unfold fresh
  simp only [List.getD_eq_getElem?_getD, List.getElem?_map]
  cases xs[k]? <;> rfl

theorem wrp_word {x : Int} (h : Word x) : wrp x = x := by
  rw [wr_mod]
  unfold Word at h
  omega

theorem getD_set_same (l : List (Int × Int)) (k : Nat) (a : Int × Int) (hk : k < l.length) : (l.set k a).getD k (0, 0) = a := by
  simp [List.getD, hk]
theorem getD_set_ne (l : List (Int × Int)) (k j : Nat) (a : Int × Int) (h : k ≠ j) : (l.set k a).getD j (0, 0) = l.getD j (0, 0) := by
  simp [List.getD_eq_getElem?_getD, h]
theorem set_self (l : List (Int × Int)) (k : Nat) : l.set k (l.getD k (0, 0)) = l := by
  by_cases hk : k < l.length
  · rw [show l.getD k (0, 0) = l[k] by simp [List.getD, hk], List.set_getElem_self]
  · rw [List.set_eq_of_length_le (by omega)]

theorem keep_give (l : List (Int × Int)) (who n : Int) (hok : ∀ a ∈ l, Word a.1 ∧ Word a.2) (hn : Word n) (h : keepE l who n = 0) :
    giveE (keepL l who n) (keepK l 0 who n) who n = 0 ∧ giveL (keepL l who n) (keepK l 0 who n) who n = l ∧ giveK (keepL l who n) (keepK l 0 who n) who n = 0 := by
  have hK : keepK l 0 who n = n := by
    unfold keepK
    rw [if_pos h, Int.zero_add, wrp_word hn]
  have hin : 0 ≤ who ∧ who < l.length := by
    unfold keepE at h
    split at h
    · assumption
    · cases h
  have hL : keepL l who n = l.set who.toNat ((l.getD who.toNat (0, 0)).1 - n, (l.getD who.toNat (0, 0)).2) := if_pos h
  have hlen : (keepL l who n).length = l.length := by rw [hL, List.length_set]
  have hg : giveE (keepL l who n) n who n = 0 := by
    unfold giveE
    rw [hlen, if_pos hin, if_neg (by omega)]
  have hk : who.toNat < l.length := by omega
  rw [hK]
  refine ⟨hg, ?_, ?_⟩
  · unfold giveL
    rw [if_pos hg, hL, getD_set_same _ _ _ hk, List.set_set]
    have hw : Word (l.getD who.toNat (0, 0)).1 := by
      rw [show l.getD who.toNat (0, 0) = l[who.toNat] by simp [List.getD, hk]]
      exact (hok _ (List.getElem_mem hk)).1
    simp only [Int.sub_add_cancel, wrp_word hw]
    exact set_self l _
  · unfold giveK
    rw [if_pos hg]
    omega

theorem move_back (xs : List Int) (who to n : Int) (hok : ∀ x ∈ xs, Word x) (hs : sumE xs = 0) (hn : Word n) (h : moveE (fresh xs) who to n = 0) :
    moveE (moveL (fresh xs) who to n) to who n = 0 ∧ moveL (moveL (fresh xs) who to n) to who n = fresh xs := by
  have hin : (0 ≤ who ∧ who < (fresh xs).length) ∧ (0 ≤ to ∧ to < (fresh xs).length) ∧ ¬ ((fresh xs).getD who.toNat (0, 0)).1 < n := by
    unfold moveE at h
    split at h
    · rename_i h1
      split at h
      · rename_i h2
        split at h
        · cases h
        · rename_i h3
          exact ⟨h1, h2, h3⟩
      · cases h
    · cases h
  obtain ⟨h1, h2, h3⟩ := hin
  have hL : moveL (fresh xs) who to n = mov2 (mov1 (fresh xs) who.toNat n) to.toNat n := if_pos h
  rw [hL]
  obtain ⟨k, hk⟩ : ∃ k, who.toNat = k := ⟨_, rfl⟩
  obtain ⟨j, hj⟩ : ∃ j, to.toNat = j := ⟨_, rfl⟩
  rw [hk] at h3
  have hkl : k < (fresh xs).length := by omega
  have hjl : j < (fresh xs).length := by omega
  have hw : ∀ i, i < (fresh xs).length → Word ((fresh xs).getD i (0, 0)).1 := fun i hi => by
    rw [fresh_getD]
    rw [fresh_length] at hi
    show Word (xs.getD i 0)
    rw [getD_at xs i hi]
    exact hok _ (List.getElem_mem hi)
  have hlen : (mov2 (mov1 (fresh xs) k n) j n).length = (fresh xs).length := by rw [mov2_length, mov1_length]
  have hE : ¬ ((mov2 (mov1 (fresh xs) k n) j n).getD j (0, 0)).1 < n := by
    unfold mov2
    rw [getD_set_same _ _ _ (by rw [mov1_length]; exact hjl)]
    unfold mov1
    by_cases hkj : k = j
    · subst hkj
      rw [getD_set_same _ _ _ hkl]
      simp only [Int.sub_add_cancel, wrp_word (hw k hkl)]
      exact h3
    · rw [getD_set_ne _ _ _ _ hkj]
      have := two_fit hok hs hkj
      rw [fresh_getD] at h3 ⊢
      have hj0 := hw j hjl
      rw [fresh_getD] at hj0
      simp only at h3 hj0 ⊢
      rw [wrp_word (by unfold Word at *; omega)]
      unfold Word at *
      omega
  have hE0 : moveE (mov2 (mov1 (fresh xs) k n) j n) to who n = 0 := by
    unfold moveE
    rw [hlen, if_pos h2, if_pos h1, hj, if_neg hE]
  rw [hk, hj]
  refine ⟨hE0, ?_⟩
  unfold moveL
  rw [if_pos hE0, hk, hj]
  by_cases hkj : k = j
  · subst hkj
    have same : ∀ l : List (Int × Int), k < l.length → Word (l.getD k (0, 0)).1 → mov2 (mov1 l k n) k n = l := by
      intro l hl hw
      unfold mov2 mov1
      rw [getD_set_same _ _ _ hl, List.set_set]
      simp only [Int.sub_add_cancel, wrp_word hw]
      exact set_self l k
    rw [same _ hkl (hw k hkl), same _ hkl (hw k hkl)]
  · have hfit := two_fit hok hs hkj
    have wj := hw j hjl
    have wk := hw k hkl
    have e1 : wrp (((fresh xs).getD j (0, 0)).1 + n) = ((fresh xs).getD j (0, 0)).1 + n := by
      rw [fresh_getD] at h3 wj wk ⊢
      exact wrp_word (by unfold Word at *; simp only at *; omega)
    unfold mov2 mov1
    simp only [getD_set_ne _ _ _ _ hkj, getD_set_ne _ _ _ _ (Ne.symm hkj), getD_set_same _ _ _ hkl]
    rw [getD_set_same _ _ _ (by rw [List.length_set]; exact hjl), e1]
    simp only [Int.sub_add_cancel, Int.add_sub_cancel, List.set_set, wrp_word wk]
    rw [List.set_comm _ _ (Ne.symm hkj), List.set_set]
    rw [set_self, set_self]
end Go.Proofs.Ytbopnijekafogaa
