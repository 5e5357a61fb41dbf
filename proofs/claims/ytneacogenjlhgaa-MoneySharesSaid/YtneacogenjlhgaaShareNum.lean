/-
  Plain arithmetic of an amount that is shared by weights: the parts, what is left of it, and how that is spread; it speaks of no program.
-/
import Derived.Test.YtneacogenjlhgaaSum
namespace Go.Proofs.Ytneacogenjlhgaa

/-- The sum of a list. -/
def tot : List Int → Int
  | [] => 0
  | x :: r => x + tot r
/-- How many aren't 0. -/
def nz : List Int → Int
  | [] => 0
  | x :: r => (if x = 0 then 0 else 1) + nz r
/-- The parts, rounded down. -/
def parts (a all : Int) (ws : List Int) : List Int := ws.map fun w => a * w / all
/-- What is left goes one by one to the first ones whose weight isn't 0. -/
def spr (left : Int) : List Int → List Int → List Int
  | w :: ws, p :: ps => if left = 0 then p :: ps else if w = 0 then p :: spr left ws ps else (p + 1) :: spr (left - 1) ws ps
  | _, ps => ps

theorem tot_append (l m : List Int) : tot (l ++ m) = tot l + tot m := by
  induction l with
  | nil => simp [tot]
  | cons x r ih => simp only [List.cons_append, tot, ih]; omega

theorem tot_nonneg (l : List Int) (h : ∀ n ∈ l, 0 ≤ n) : 0 ≤ tot l := by
  induction l with
  | nil => simp [tot]
  | cons x r ih =>
    have := ih fun n hn => h n (by simp [hn])
    have := h x (by simp)
    simp only [tot]
    omega

theorem tot_mem_le (l : List Int) (h : ∀ n ∈ l, 0 ≤ n) : ∀ n ∈ l, n ≤ tot l := by
  induction l with
  | nil => intro n hn; simp at hn
  | cons x r ih =>
    intro n hn
    have h0 := tot_nonneg r fun n hn => h n (by simp [hn])
    have hx := h x (by simp)
    simp only [tot]
    rcases List.mem_cons.1 hn with rfl | hn
    · omega
    · have := ih (fun n hn => h n (by simp [hn])) n hn
      omega

theorem sumGo_tot (l : List Int) (s : Int) (hs : 0 ≤ s) (h : ∀ n ∈ l, 0 ≤ n) (hb : s + tot l < 18446744073709551616) : sumGo s l = (s + tot l, 0) := by
  induction l generalizing s with
  | nil => simp [sumGo, tot]
  | cons x r ih =>
    have h0 := tot_nonneg r fun n hn => h n (by simp [hn])
    have hx := h x (by simp)
    simp only [tot] at hb
    have e : addE s x = 0 := by unfold addE; rw [if_pos (by omega)]
    have v : addV s x = s + x := by unfold addV; rw [if_pos (by omega)]
    rw [sumGo, if_pos e, v, ih (s + x) (by omega) (fun n hn => h n (by simp [hn])) (by omega)]
    simp only [tot]
    congr 1
    omega

theorem sumGo_ok (l : List Int) (s : Int) (hs : 0 ≤ s) (h : ∀ n ∈ l, 0 ≤ n) (he : (sumGo s l).2 = 0) : (sumGo s l).1 = s + tot l := by
  induction l generalizing s with
  | nil => simp [sumGo, tot]
  | cons x r ih =>
    have hx := h x (by simp)
    rw [sumGo] at he ⊢
    by_cases h0 : addE s x = 0
    · rw [if_pos h0] at he ⊢
      have v : addV s x = s + x := by
        unfold addE at h0
        unfold addV
        split at h0
        · rename_i h1; rw [if_pos h1]
        · omega
      rw [v] at he ⊢
      rw [ih (s + x) (by omega) (fun n hn => h n (by simp [hn])) he]
      simp only [tot]
      omega
    · rw [if_neg h0] at he
      simp at he

theorem parts_sum (a all : Int) (ws : List Int) (hall : 0 < all) : ∃ R, a * tot ws = all * tot (parts a all ws) + R ∧ 0 ≤ R ∧ R ≤ all * nz ws := by
  induction ws with
  | nil => exact ⟨0, by simp [tot, parts], by omega, by simp [nz]⟩
  | cons w r ih =>
    obtain ⟨R, e, r0, r1⟩ := ih
    have hm := Int.mul_ediv_add_emod (a * w) all
    have hm0 := Int.emod_nonneg (a * w) (b := all) (by omega)
    have hm1 := Int.emod_lt_of_pos (a * w) hall
    refine ⟨R + a * w % all, ?_, by omega, ?_⟩
    · simp only [tot, parts, List.map_cons]
      have e' : a * tot r = all * tot (List.map (fun w => a * w / all) r) + R := e
      grind
    · simp only [nz]
      split
      · rename_i h0
        subst h0
        simp
        exact r1
      · rw [Int.mul_add]
        omega

theorem left_bounds (a : Int) (ws : List Int) (hall : 0 < tot ws) : 0 ≤ a - tot (parts a (tot ws) ws) ∧ a - tot (parts a (tot ws) ws) ≤ nz ws := by
  obtain ⟨R, e, r0, r1⟩ := parts_sum a (tot ws) ws hall
  have e2 : tot ws * (a - tot (parts a (tot ws) ws)) = R := by
    rw [Int.mul_sub, Int.mul_comm (tot ws) a]
    omega
  refine ⟨?_, ?_⟩
  · refine Int.not_lt.1 fun h => ?_
    have := Int.mul_neg_of_pos_of_neg hall h
    omega
  · refine Int.not_lt.1 fun h => ?_
    have := Int.mul_lt_mul_of_pos_left h hall
    omega

theorem parts_nonneg (a all : Int) (ws : List Int) (ha : 0 ≤ a) (hall : 0 < all) (hw : ∀ n ∈ ws, 0 ≤ n) : ∀ n ∈ parts a all ws, 0 ≤ n := by
  intro n hn
  obtain ⟨w, h, rfl⟩ := List.mem_map.1 hn
  exact Int.ediv_nonneg (Int.mul_nonneg ha (hw w h)) (Int.le_of_lt hall)

theorem spr_length (ws ps : List Int) (left : Int) : (spr left ws ps).length = ps.length := by
  induction ws generalizing ps left with
  | nil => simp [spr]
  | cons w r ih =>
    cases ps with
    | nil => simp [spr]
    | cons p q =>
      rw [spr]
      split
      · rfl
      · split <;> simp [ih]

theorem spr_tot (ws ps : List Int) (left : Int) (hl : ws.length = ps.length) (h0 : 0 ≤ left) (h1 : left ≤ nz ws) : tot (spr left ws ps) = tot ps + left := by
  induction ws generalizing ps left with
  | nil => simp [nz] at h1; simp [spr]; omega
  | cons w r ih =>
    cases ps with
    | nil => simp at hl
    | cons p q =>
      simp only [nz] at h1
      rw [spr]
      split
      · omega
      · split
        · rename_i h2 h3
          rw [if_pos h3] at h1
          simp only [tot, ih q left (by simpa using hl) h0 (by omega)]
          omega
        · rename_i h2 h3
          rw [if_neg h3] at h1
          simp only [tot, ih q (left - 1) (by simpa using hl) (by omega) (by omega)]
          omega

theorem spr_nonneg (ws ps : List Int) (left : Int) (h : ∀ n ∈ ps, 0 ≤ n) : ∀ n ∈ spr left ws ps, 0 ≤ n := by
  induction ws generalizing ps left with
  | nil => simpa [spr] using h
  | cons w r ih =>
    cases ps with
    | nil => simp [spr]
    | cons p q =>
      have hp := h p (by simp)
      have hq := fun n hn => h n (List.mem_cons_of_mem p hn)
      rw [spr]
      split
      · exact h
      · split
        · intro n hn
          rcases List.mem_cons.1 hn with rfl | hn
          · exact hp
          · exact ih q left hq n hn
        · intro n hn
          rcases List.mem_cons.1 hn with rfl | hn
          · omega
          · exact ih q (left - 1) hq n hn

theorem spr_zero (ws ps : List Int) (left : Int) (hl : ws.length = ps.length) (h : ∀ i, ws.getD i 0 = 0 → ps.getD i 0 = 0) : ∀ i, ws.getD i 0 = 0 → (spr left ws ps).getD i 0 = 0 := by
  induction ws generalizing ps left with
  | nil => simpa [spr] using h
  | cons w r ih =>
    cases ps with
    | nil => simp at hl
    | cons p q =>
      have hq : ∀ i, r.getD i 0 = 0 → q.getD i 0 = 0 := fun i hi => by simpa using h (i + 1) (by simpa using hi)
      rw [spr]
      split
      · exact h
      · split
        · intro i hi
          cases i with
          | zero => simpa using h 0 hi
          | succ i => simpa using ih q left (by simpa using hl) hq i (by simpa using hi)
        · rename_i h2 h3
          intro i hi
          cases i with
          | zero => exact absurd (by simpa using hi) h3
          | succ i => simpa using ih q (left - 1) (by simpa using hl) hq i (by simpa using hi)

/-- The answer of Share: why there is none, and the shares. -/
def shareE (a : Int) (ws : List Int) : Int × List Int :=
  if sumE ws ≠ 0 then (sumE ws, []) else if sumV ws = 0 then (1, []) else (0, spr (a - tot (parts a (sumV ws) ws)) ws (parts a (sumV ws) ws))

/-- What is known where there are shares. -/
theorem share_facts (a : Int) (ws : List Int) (ha : Word a) (hw : ∀ n ∈ ws, Word n) (h0 : sumE ws = 0) (h1 : sumV ws ≠ 0) :
    sumV ws = tot ws ∧ 0 < tot ws ∧ tot ws ≤ 18446744073709551615 ∧ 0 ≤ a - tot (parts a (tot ws) ws) ∧ tot (spr (a - tot (parts a (tot ws) ws)) ws (parts a (tot ws) ws)) = a ∧
      (∀ n ∈ spr (a - tot (parts a (tot ws) ws)) ws (parts a (tot ws) ws), Word n) ∧ (∀ i, ws.getD i 0 = 0 → (spr (a - tot (parts a (tot ws) ws)) ws (parts a (tot ws) ws)).getD i 0 = 0) := by
  have hn : ∀ n ∈ ws, 0 ≤ n := fun n hn => (hw n hn).1
  have e : sumV ws = tot ws := by
    have := sumGo_ok ws 0 (by omega) hn h0
    rw [sumV, this]
    omega
  have ht := tot_nonneg ws hn
  have hp : 0 < tot ws := by rw [e] at h1; omega
  have hv := (sumV_word ws hw).2
  have hb := left_bounds a ws hp
  have hs := spr_tot ws (parts a (tot ws) ws) (a - tot (parts a (tot ws) ws)) (by simp [parts]) hb.1 hb.2
  have hs' : tot (spr (a - tot (parts a (tot ws) ws)) ws (parts a (tot ws) ws)) = a := by omega
  have hnn := spr_nonneg ws (parts a (tot ws) ws) (a - tot (parts a (tot ws) ws)) (parts_nonneg a (tot ws) ws ha.1 hp hn)
  refine ⟨e, hp, by omega, hb.1, hs', fun n h => ?_, ?_⟩
  · have := tot_mem_le _ hnn n h
    have := hnn n h
    have := ha.2
    unfold Word
    omega
  · refine spr_zero _ _ _ (by simp [parts]) fun i hi => ?_
    unfold parts
    by_cases hi' : i < ws.length
    · have e1 : ws.getD i 0 = ws[i] := getD_at ws i hi'
      rw [e1] at hi
      simp [List.getD, hi', hi]
    · simp [List.getD, Nat.le_of_not_lt hi']

end Go.Proofs.Ytneacogenjlhgaa
