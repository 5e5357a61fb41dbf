/-
  What a run comes to: it costs no more than its gas, more gas turns nothing but the lack of it; some programs.
-/
import Derived.Test.YtkilajobnlagbaaDoorCodH
namespace Go.Proofs.YtkilajobnlagbaaDoor
open Go.RowKit
set_option linter.unusedVariables false

theorem runL_ge (p fs : List Int) (ps : List Bool) (ht : Int) (gas : Nat) : ∀ (fuel at_ cost : Nat) (s : List Int), cost ≤ (runL p fs ps ht gas fuel at_ cost s).2.1
  | 0, at_, cost, s => by simp [runL]
  | fuel + 1, at_, cost, s => by
    rw [runL]
    split
    · exact Nat.le_refl _
    · split
      · exact Nat.le_refl _
      · split
        · exact Nat.le_add_right _ _
        · split
          · exact Nat.le_add_right _ _
          · split
            · exact Nat.le_add_right _ _
            · exact Nat.le_trans (Nat.le_add_right _ _) (runL_ge p fs ps ht gas fuel _ _ _)
theorem runL_le (p fs : List Int) (ps : List Bool) (ht : Int) (gas : Nat) : ∀ (fuel at_ cost : Nat) (s : List Int), cost ≤ gas → (runL p fs ps ht gas fuel at_ cost s).2.1 ≤ gas
  | 0, at_, cost, s, h => by simpa [runL] using h
  | fuel + 1, at_, cost, s, h => by
    rw [runL]
    split
    · exact h
    · split
      · exact h
      · rename_i hg
        have hg' : cost + cst (opAt p at_) ≤ gas := by omega
        split
        · exact hg'
        · split
          · rename_i h0
            rw [h0] at hg'
            exact hg'
          · split
            · exact hg'
            · exact runL_le p fs ps ht gas fuel _ _ _ hg'
theorem runL_more (p fs : List Int) (ps : List Bool) (ht : Int) (a b : Nat) (hab : a ≤ b) : ∀ (fa fb at_ cost : Nat) (s : List Int), fa ≤ fb →
    ((runL p fs ps ht a fa at_ cost s).2.2 = 24 ∨ runL p fs ps ht a fa at_ cost s = runL p fs ps ht b fb at_ cost s) ∧ (runL p fs ps ht a fa at_ cost s).2.1 ≤ (runL p fs ps ht b fb at_ cost s).2.1
  | 0, fb, at_, cost, s, h => by
    refine ⟨.inl (by simp [runL]), ?_⟩
    have := runL_ge p fs ps ht b fb at_ cost s
    simpa [runL] using this
  | fa + 1, 0, at_, cost, s, h => by omega
  | fa + 1, fb + 1, at_, cost, s, h => by
    have hge := runL_ge p fs ps ht b (fb + 1) at_ cost s
    by_cases h1 : ordE p at_ ≠ 0
    · rw [runL, runL, if_pos h1, if_pos h1]
      exact ⟨.inr rfl, Nat.le_refl _⟩
    · by_cases h2 : a < cost + cst (opAt p at_)
      · have e : runL p fs ps ht a (fa + 1) at_ cost s = (0, cost, 24) := by rw [runL, if_neg h1, if_pos h2]
        rw [e]
        exact ⟨.inl rfl, hge⟩
      · clear hge
        rw [runL, runL, if_neg h1, if_neg h1, if_neg h2, if_neg (show ¬ b < cost + cst (opAt p at_) by omega)]
        split
        · exact ⟨.inr rfl, Nat.le_refl _⟩
        · split
          · exact ⟨.inr rfl, Nat.le_refl _⟩
          · split
            · exact ⟨.inr rfl, Nat.le_refl _⟩
            · exact runL_more p fs ps ht a b hab fa fb _ _ _ (by omega)
/-- No run costs more than its gas; with more of it, a run that didn't lack it ends the same. -/
theorem runV_more (p fs : List Int) (ps : List Bool) (ht : Int) (a b : Nat) (hab : a ≤ b) (hb : b ≤ 4096) :
    (runV p fs ps ht (a : Int)).2.1 ≤ a ∧ (runV p fs ps ht (b : Int)).2.1 ≤ b ∧ (runV p fs ps ht (a : Int)).2.1 ≤ (runV p fs ps ht (b : Int)).2.1 ∧ ((runV p fs ps ht (a : Int)).2.2 = 24 ∨ runV p fs ps ht (a : Int) = runV p fs ps ht (b : Int)) := by
  unfold runV
  by_cases h : 256 < p.length
  · rw [if_pos (.inl h), if_pos (.inl h)]
    exact ⟨Nat.zero_le _, Nat.zero_le _, Nat.le_refl _, .inr rfl⟩
  · rw [if_neg (by omega), if_neg (by omega), Int.toNat_natCast, Int.toNat_natCast]
    have := runL_more p fs ps ht a b hab (a + 1) (b + 1) 0 0 [] (by omega)
    exact ⟨runL_le _ _ _ _ _ _ _ _ _ (Nat.zero_le _), runL_le _ _ _ _ _ _ _ _ _ (Nat.zero_le _), this.2, this.1⟩

theorem runV_ex : runV [1, 0, 0, 0, 0, 0, 0, 0, 2, 1, 0, 0, 0, 0, 0, 0, 0, 3, 6, 0] [] [] 0 100 = (1, 4, 0) := by decide +kernel
theorem runV_jump : (runV [11, 0, 0] [] [] 0 50).2.2 = 24 := by decide +kernel

theorem num1 (o i : Int) (h : 0 ≤ i) (ho : fol o.toNat = 1) : (numAt [o, i, 0] 0).toNat = i.toNat := by
  have : numAt [o, i, 0] 0 = i := by
    unfold numAt opAt
    rw [show (([o, i, 0] : List Int).getD 0 0) = o from rfl, ho]
    show (0 * 256 + i : Int) = i
    omega
  rw [this]
theorem runL_on (p fs : List Int) (ps : List Bool) (ht : Int) (gas fuel at_ cost : Nat) (s : List Int) (op num : Nat) (h1 : ordE p at_ = 0) (h2 : opAt p at_ = op) (h3 : (numAt p at_).toNat = num) (h4 : tkE s (tks op) = 0) (h5 : op ≠ 0) (h6 : ¬ gas < cost + cst op) :
    runL p fs ps ht gas (fuel + 1) at_ cost s =
      if doE (tkL s (tks op)) (laysR op num fs ps ht (tkA s (tks op)) (tkB s (tks op))) ≠ 0 then (0, cost + cst op, doE (tkL s (tks op)) (laysR op num fs ps ht (tkA s (tks op)) (tkB s (tks op))))
      else runL p fs ps ht gas fuel (nextV op num (at_ + 1 + fol op) (tkA s (tks op))) (cost + cst op) (doL (tkL s (tks op)) (laysR op num fs ps ht (tkA s (tks op)) (tkB s (tks op)))) := by
  rw [runL, if_neg (by rw [h1]; decide), h2, h3, if_neg h6, if_neg (by rw [h4]; decide), if_neg h5]
theorem runL_halt (p fs : List Int) (ps : List Bool) (ht : Int) (gas fuel at_ cost : Nat) (x : Int) (h1 : ordE p at_ = 0) (h2 : opAt p at_ = 0) (h6 : ¬ gas < cost + 1) :
    runL p fs ps ht gas (fuel + 1) at_ cost [x] = (x, cost + 1, 0) := by
  rw [runL, if_neg (by rw [h1]; decide), h2, if_neg (show ¬ gas < cost + cst 0 from h6), if_neg (fun h => h rfl), if_pos rfl]
  rfl
theorem load_doE (i : Nat) (fs : List Int) (ps : List Bool) (ht : Int) : laysR 2 i fs ps ht 0 0 = if fs.length ≤ i then (1, []) else (0, [fs.getD i 0]) := rfl
theorem paid_doE (i : Nat) (fs : List Int) (ps : List Bool) (ht : Int) : laysR 16 i fs ps ht 0 0 = if ps.length ≤ i then (1, []) else (0, [one01 (ps.getD i false)]) := rfl
theorem doE_one (x : Int) : doE [] (0, [x]) = 0 := by unfold doE; rw [if_pos rfl]; rfl
theorem doL_one (x : Int) : doL [] (0, [x]) = [x] := by unfold doL; rw [if_pos rfl]; rfl
theorem runV_load (i : Nat) (hi : i < 256) (fs : List Int) (ps : List Bool) (ht : Int) : runV [2, (i : Int), 0] fs ps ht 100 = if fs.length ≤ i then (0, 1, 1) else (fs.getD i 0, 2, 0) := by
  unfold runV
  rw [if_neg (by simp), show (100 : Int).toNat = 100 from rfl, show 100 + 1 = 99 + 1 + 1 from rfl]
  rw [runL_on _ fs ps ht 100 (99 + 1) 0 0 [] 2 i rfl rfl (by rw [num1 2 (i : Int) (by omega) rfl, Int.toNat_natCast]) rfl (by decide) (by decide)]
  rw [show tkA [] (tks 2) = 0 from rfl, show tkB [] (tks 2) = 0 from rfl, show tkL [] (tks 2) = [] from rfl, load_doE]
  by_cases h : fs.length ≤ i
  · rw [if_pos h, if_pos h]; rfl
  · rw [if_neg h, if_neg h, if_neg (by rw [doE_one]; decide), doL_one]
    exact runL_halt [2, (i : Int), 0] fs ps ht 100 99 2 1 _ rfl rfl (by decide)
theorem runV_paid (i : Nat) (hi : i < 256) (fs : List Int) (ps : List Bool) (ht : Int) : runV [16, (i : Int), 0] fs ps ht 100 = if ps.length ≤ i then (0, 10, 1) else (one01 (ps.getD i false), 11, 0) := by
  unfold runV
  rw [if_neg (by simp), show (100 : Int).toNat = 100 from rfl, show 100 + 1 = 99 + 1 + 1 from rfl]
  rw [runL_on _ fs ps ht 100 (99 + 1) 0 0 [] 16 i rfl rfl (by rw [num1 16 (i : Int) (by omega) rfl, Int.toNat_natCast]) rfl (by decide) (by decide)]
  rw [show tkA [] (tks 16) = 0 from rfl, show tkB [] (tks 16) = 0 from rfl, show tkL [] (tks 16) = [] from rfl, paid_doE]
  by_cases h : ps.length ≤ i
  · rw [if_pos h, if_pos h]; rfl
  · rw [if_neg h, if_neg h, if_neg (by rw [doE_one]; decide), doL_one]
    exact runL_halt [16, (i : Int), 0] fs ps ht 100 99 2 10 _ rfl rfl (by decide)
theorem runV_now (fs : List Int) (ps : List Bool) (ht : Int) : runV [17, 0] fs ps ht 2 = (ht, 2, 0) := by
  unfold runV
  rw [if_neg (by simp), show (2 : Int).toNat = 2 from rfl, show 2 + 1 = 1 + 1 + 1 from rfl]
  rw [runL_on _ fs ps ht 2 (1 + 1) 0 0 [] 17 0 rfl rfl rfl rfl (by decide) (by decide)]
  rw [show laysR 17 0 fs ps ht (tkA [] (tks 17)) (tkB [] (tks 17)) = (0, [ht]) from rfl, show tkL [] (tks 17) = [] from rfl, if_neg (by rw [doE_one]; decide), doL_one]
  exact runL_halt [17, 0] fs ps ht 2 1 1 1 ht rfl rfl (by decide)
/-- CodeStacks' programs. -/
theorem runV_nows : ∀ k < 40, runV (List.replicate k 17 ++ [0]) [] [] 6 500 = if k = 0 then (0, 1, 12) else if 32 < k then (0, 33, 4) else (6, k + 1, 0) := by decide +kernel
theorem runV_drops : ∀ k < 40, 0 < k → k ≤ 32 → (runV (List.replicate k 17 ++ List.replicate k 15 ++ [15]) [] [] 0 500).2.2 = 12 := by decide +kernel
end Go.Proofs.YtkilajobnlagbaaDoor
