/-
  The spiral, step by step: its spots are on the chart and unlike.
-/
import Derived.Test.YtjbjekejekmipaaNum
namespace Go.Proofs.Ytjbjekejekmipaa

def dirX (c : Nat) : Int := if c % 4 = 0 then 1 else if c % 4 = 2 then -1 else 0
def dirY (c : Nat) : Int := if c % 4 = 1 then 1 else if c % 4 = 3 then -1 else 0

/-- So many steps more, in leg c of which i are done. -/
def spi : Nat → Nat → Nat → Int → Int → Int × Int
  | 0, _, _, x, y => (x, y)
  | n + 1, c, i, x, y => if i + 1 = c / 2 + 1 then spi n (c + 1) 0 (x + dirX c) (y + dirY c) else spi n c (i + 1) (x + dirX c) (y + dirY c)

/-- The n-th spot. -/
def spiP (n : Nat) : Int × Int := spi n 0 0 0 0

theorem dir_succ (c : Nat) : dirX (c + 1) = -(dirY c) ∧ dirY (c + 1) = dirX c := by
  unfold dirX dirY
  have h : c % 4 = 0 ∨ c % 4 = 1 ∨ c % 4 = 2 ∨ c % 4 = 3 := by omega
  rcases h with h | h | h | h
  · have h2 : (c + 1) % 4 = 1 := by omega
    simp [h, h2]
  · have h2 : (c + 1) % 4 = 2 := by omega
    simp [h, h2]
  · have h2 : (c + 1) % 4 = 3 := by omega
    simp [h, h2]
  · have h2 : (c + 1) % 4 = 0 := by omega
    simp [h, h2]

theorem dir_bound (c : Nat) : (-1 ≤ dirX c ∧ dirX c ≤ 1) ∧ (-1 ≤ dirY c ∧ dirY c ≤ 1) := by
  unfold dirX dirY
  refine ⟨?_, ?_⟩
  · split
    · omega
    · split <;> omega
  · split
    · omega
    · split <;> omega

theorem spi_run (m c : Nat) : ∀ (s i : Nat) (x y : Int), i + s ≤ c / 2 → spi (m + s) c i x y = spi m c (i + s) (x + dirX c * s) (y + dirY c * s) := by
  intro s
  induction s with
  | zero => intro i x y _; simp
  | succ s ih =>
    intro i x y h
    rw [show m + (s + 1) = (m + s) + 1 by omega, spi, if_neg (by omega), ih (i + 1) _ _ (by omega)]
    have e1 : x + dirX c + dirX c * (s : Int) = x + dirX c * ((s + 1 : Nat) : Int) := by rw [Int.natCast_add, Int.mul_add]; simp; omega
    have e2 : y + dirY c + dirY c * (s : Int) = y + dirY c * ((s + 1 : Nat) : Int) := by rw [Int.natCast_add, Int.mul_add]; simp; omega
    rw [e1, e2, show i + 1 + s = i + (s + 1) by omega]

/-- A whole leg. -/
theorem spi_leg (m c : Nat) (x y : Int) : spi (m + (c / 2 + 1)) c 0 x y = spi m (c + 1) 0 (x + dirX c * ((c / 2 + 1 : Nat) : Int)) (y + dirY c * ((c / 2 + 1 : Nat) : Int)) := by
  rw [show m + (c / 2 + 1) = (m + 1) + c / 2 by omega, spi_run (m + 1) c (c / 2) 0 x y (by omega), spi, if_pos (by omega)]
  have e1 : x + dirX c * ((c / 2 : Nat) : Int) + dirX c = x + dirX c * ((c / 2 + 1 : Nat) : Int) := by rw [Int.natCast_add, Int.mul_add]; simp; omega
  have e2 : y + dirY c * ((c / 2 : Nat) : Int) + dirY c = y + dirY c * ((c / 2 + 1 : Nat) : Int) := by rw [Int.natCast_add, Int.mul_add]; simp; omega
  rw [e1, e2]

/-- The last leg, perhaps not whole. -/
theorem spi_last (s c : Nat) (x y : Int) (h : s ≤ c / 2 + 1) : spi s c 0 x y = (x + dirX c * (s : Int), y + dirY c * (s : Int)) := by
  by_cases h2 : s = c / 2 + 1
  · have := spi_leg 0 c x y
    rw [Nat.zero_add] at this
    rw [h2, this, spi]
  · have := spi_run 0 c s 0 x y (by omega)
    rw [Nat.zero_add] at this
    rw [this, spi]

/-- Which spot of the spiral it is. -/
def spiInv (x y : Int) : Int :=
  let r := max x.natAbs y.natAbs
  if y = r then (2 * r - 1) * (2 * r) + (r - x)
  else if x = -r then 4 * r * r + (r - y)
  else if y = -r then 2 * r * (2 * r + 1) + (x + r)
  else (2 * r - 1) * (2 * r - 1) + (y + r - 1)

def spiOk : Nat → Nat → Nat → Nat → Int → Int → Bool
  | 0, _, _, _, _, _ => true
  | f + 1, n, c, i, x, y => decide (spiInv x y = (n : Int)) && decide (On x y) && (if i + 1 = c / 2 + 1 then spiOk f (n + 1) (c + 1) 0 (x + dirX c) (y + dirY c) else spiOk f (n + 1) c (i + 1) (x + dirX c) (y + dirY c))

theorem spiOk_at (f : Nat) : ∀ (n c i : Nat) (x y : Int), spiOk f n c i x y = true → ∀ k, k < f → spiInv (spi k c i x y).1 (spi k c i x y).2 = ((n + k : Nat) : Int) ∧ On (spi k c i x y).1 (spi k c i x y).2 := by
  induction f with
  | zero => intro n c i x y _ k hk; omega
  | succ f ih =>
    intro n c i x y h k hk
    rw [spiOk, Bool.and_eq_true, Bool.and_eq_true] at h
    obtain ⟨⟨h1, h2⟩, h3⟩ := h
    cases k with
    | zero => exact ⟨by simpa [spi] using h1, by simpa [spi] using h2⟩
    | succ k =>
      rw [spi]
      split at h3
      · rename_i he
        rw [if_pos he]
        have := ih (n + 1) _ _ _ _ h3 k (by omega)
        rw [show n + (k + 1) = n + 1 + k by omega]
        exact this
      · rename_i he
        rw [if_neg he]
        have := ih (n + 1) _ _ _ _ h3 k (by omega)
        rw [show n + (k + 1) = n + 1 + k by omega]
        exact this

set_option maxRecDepth 1000000 in
theorem spiOk_all : spiOk 10000 0 0 0 0 0 = true := by decide +kernel

theorem spi_on (n : Nat) (h : n < 10000) : On (spiP n).1 (spiP n).2 := (spiOk_at 10000 0 0 0 0 0 spiOk_all n h).2

theorem spi_inj (n m : Nat) (hn : n < 10000) (hm : m < 10000) (h : spiP n = spiP m) : n = m := by
  have h1 := (spiOk_at 10000 0 0 0 0 0 spiOk_all n hn).1
  have h2 := (spiOk_at 10000 0 0 0 0 0 spiOk_all m hm).1
  unfold spiP at h
  rw [h] at h1
  rw [h1] at h2
  omega

theorem spi_three : spiP 3 = (0, 1) := by decide
end Go.Proofs.Ytjbjekejekmipaa
