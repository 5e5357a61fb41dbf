/-
  Texts there and back, in numbers: lines, cuts, decimals.
-/
import Derived.Test.YtkilajobnlagbaaDoorCodEE
namespace Go.Proofs.YtkilajobnlagbaaDoor
open Go.RowKit
set_option linter.unusedVariables false

theorem pre1 (c b : UInt8) (l : List UInt8) : [c].isPrefixOf (b :: l) = (c == b) := by simp [List.isPrefixOf]
theorem idx_in (c : UInt8) : ∀ (a r : List UInt8), c ∉ a → Lib.index (a ++ c :: r) [c] = (a.length : Int)
  | [], r, _ => by
    show Lib.index (c :: r) [c] = 0
    rw [Lib.index, pre1]
    simp
  | b :: a, r, h => by
    have hb : (c == b) = false := by rw [beq_eq_false_iff_ne]; rintro rfl; exact h (by simp)
    have ih := idx_in c a r (fun h2 => h (by simp [h2]))
    show Lib.index (b :: (a ++ c :: r)) [c] = _
    rw [Lib.index, pre1, hb, ih, if_neg (by simp), if_neg (by rw [beq_iff_eq]; omega)]
    simp
theorem idx_out (c : UInt8) : ∀ (a : List UInt8), c ∉ a → Lib.index a [c] = -1
  | [], _ => rfl
  | b :: a, h => by
    have hb : (c == b) = false := by rw [beq_eq_false_iff_ne]; rintro rfl; exact h (by simp)
    have ih := idx_out c a (fun h2 => h (by simp [h2]))
    rw [Lib.index, pre1, hb, ih, if_neg (by simp)]
    try rfl
theorem idx_inv (c : UInt8) : ∀ (s : List UInt8) (i : Nat), Lib.index s [c] = (i : Int) → s = s.take i ++ c :: s.drop (i + 1)
  | [], i, h => by
    rw [Lib.index] at h
    simp at h
  | b :: s, i, h => by
    rw [Lib.index, pre1] at h
    by_cases hb : (c == b) = true
    · rw [if_pos hb] at h
      have : i = 0 := by omega
      subst this
      rw [beq_iff_eq] at hb
      subst hb
      simp
    · rw [if_neg hb] at h
      by_cases h1 : (Lib.index s [c] == -1) = true
      · rw [if_pos h1] at h; omega
      · rw [if_neg h1] at h
        obtain ⟨j, rfl⟩ : ∃ j, i = j + 1 := ⟨i - 1, by have := Lib.index_ge s [c]; rw [beq_iff_eq] at h1; omega⟩
        have := idx_inv c s j (by omega)
        simpa using this
theorem cut_in (c : UInt8) (a r : List UInt8) (h : c ∉ a) : Lib.cut (a ++ c :: r) [c] = (a, r, true) := by
  unfold Lib.cut
  rw [idx_in c a r h, if_pos (by omega)]
  simp only [Int.toNat_natCast, List.length_cons, List.length_nil, Nat.zero_add]
  rw [List.take_left' rfl, show a ++ c :: r = (a ++ [c]) ++ r by simp, List.drop_left' (by simp)]
theorem cut_out (c : UInt8) (a : List UInt8) (h : c ∉ a) : Lib.cut a [c] = (a, [], false) := by
  unfold Lib.cut
  rw [idx_out c a h, if_neg (by omega)]
theorem cut_inv (c : UInt8) (s : List UInt8) : ((Lib.cut s [c]).2.2 = true ∧ s = (Lib.cut s [c]).1 ++ c :: (Lib.cut s [c]).2.1) ∨ ((Lib.cut s [c]).2.2 = false ∧ (Lib.cut s [c]).1 = s) := by
  unfold Lib.cut
  by_cases h : 0 ≤ Lib.index s [c]
  · rw [if_pos h]
    left
    refine ⟨rfl, ?_⟩
    have := idx_inv c s (Lib.index s [c]).toNat (by omega)
    simpa using this
  · rw [if_neg h]
    right
    exact ⟨rfl, rfl⟩
theorem byte_dig (d : Nat) (h : d < 10) : (UInt8.ofNat (48 + d)).toNat = 48 + d := by
  rw [UInt8.toNat_ofNat']
  omega
theorem decD_ne (u : Nat) : Lib.decDigits u ≠ [] := by
  rw [Lib.decDigits]
  split <;> simp
theorem parseM_app (M : Nat) : ∀ (a b : List UInt8) (acc v : Nat), Lib.parseUintM M acc a = .ok v → Lib.parseUintM M acc (a ++ b) = Lib.parseUintM M v b
  | [], b, acc, v, h => by
    simp only [Lib.parseUintM] at h
    injection h with h
    subst h
    rfl
  | c :: a, b, acc, v, h => by
    simp only [Lib.parseUintM, List.cons_append] at h ⊢
    split at h
    · rename_i h1
      rw [if_pos h1]
      split at h
      · cases h
      · rename_i h2
        rw [if_neg h2]
        split at h
        · cases h
        · rename_i h3
          rw [if_neg h3]
          exact parseM_app M a b _ v h
    · cases h
theorem parseM_dec (M : Nat) (hM : M < 18446744073709551616) : ∀ (u : Nat), u ≤ M → Lib.parseUintM M 0 (Lib.decDigits u) = .ok u := by
  intro u
  induction u using Nat.strongRecOn with
  | ind u ih =>
    intro hu
    rw [Lib.decDigits]
    split
    · rename_i h
      simp only [Lib.parseUintM]
      rw [byte_dig u h, if_pos (by omega), if_neg (by omega), if_neg (by omega)]
      congr 1
      omega
    · rename_i h
      rw [parseM_app M _ _ 0 (u / 10) (ih (u / 10) (by omega) (by omega))]
      simp only [Lib.parseUintM]
      rw [byte_dig (u % 10) (by omega), if_pos (by omega), if_neg (by omega), if_neg (by omega)]
      congr 1
      omega
theorem parseB_dec (B u : Nat) (hB : 2 ^ B ≤ 18446744073709551616) (hu : u < 2 ^ B) : Lib.parseUintB B (Lib.decDigits u) = .ok u := by
  unfold Lib.parseUintB
  rw [if_neg (decD_ne u)]
  exact parseM_dec _ (by omega) u (by omega)
end Go.Proofs.YtkilajobnlagbaaDoor
