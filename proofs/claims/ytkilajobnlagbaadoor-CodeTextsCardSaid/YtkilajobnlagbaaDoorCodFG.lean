/-
  The document's line in numbers: a name up to the first blank, and digits behind it.
-/
import Derived.Test.YtkilajobnlagbaaDoorCodFF
namespace Go.Proofs.YtkilajobnlagbaaDoor
open Go.RowKit
set_option linter.unusedVariables false

theorem ln_name (s : ByteArray) : (lnName s).data.toList = s.data.toList.take (spAt s.data.toList) := by
  show (Lib.cut s.data.toList [32]).1.toArray.toList = _
  rw [cut_spAt]
  split
  · rfl
  · rename_i h
    have := spAt_le s.data.toList
    rw [List.take_of_length_le (by omega)]
theorem ln_has (s : ByteArray) : lnHas s = decide (spAt s.data.toList < s.data.toList.length) := by
  unfold lnHas
  rw [cut_spAt]
  split
  · rename_i h; exact (decide_eq_true h).symm
  · rename_i h; exact (decide_eq_false h).symm
theorem ln_num (s : ByteArray) (h : spAt s.data.toList < s.data.toList.length) : (lnNum s).data.toList = s.data.toList.drop (spAt s.data.toList + 1) := by
  show (Lib.cut s.data.toList [32]).2.1.toArray.toList = _
  rw [cut_spAt, if_pos h]
theorem opF_out (s : ByteArray) : ∀ f k, (∀ j, k ≤ j → j < k + f → nm j ≠ s) → opF s f k = (0, false)
  | 0, k, _ => rfl
  | f + 1, k, h => by
    unfold opF
    rw [if_neg (h k (Nat.le_refl _) (by omega))]
    exact opF_out s f (k + 1) fun j h1 h2 => h j (by omega) (by omega)
theorem lineE_word (s : ByteArray) (h : ∀ j, j < 18 → nm j ≠ lnName s) : lineE s = (40, []) := by
  unfold lineE
  rw [opF_out (lnName s) 18 0 fun j _ hj => h j (by omega)]
  rfl
theorem lineE_form (s : ByteArray) (op : Nat) (ho : op < 18) (hn : lnName s = nm op) (hh : lnHas s ≠ decide (0 < fol op)) : lineE s = (10, []) := by
  unfold lineE
  rw [hn, opF_nm op ho]
  simp only [Int.toNat_natCast]
  rw [if_neg (by simp), if_pos hh]
theorem lineE_bare (s : ByteArray) (op : Nat) (ho : op < 18) (hn : lnName s = nm op) (hh : lnHas s = false) (hf : fol op = 0) : lineE s = (0, [(op : Int)]) := by
  unfold lineE
  rw [hn, opF_nm op ho]
  simp only [Int.toNat_natCast]
  rw [if_neg (by simp), if_neg (by rw [hh]; simp [hf]), if_pos hf]
theorem lineE_good (s : ByteArray) (op u : Nat) (ho : op < 18) (hn : lnName s = nm op) (hh : lnHas s = true) (hf : fol op ≠ 0) (hu : u < 256 ^ fol op) (hd : (lnNum s).data.toList = Lib.decDigits u) : lineE s = (0, segO (op, u)) := by
  have e3 : lnNum s = ⟨(Lib.decDigits u).toArray⟩ := ba_ext hd
  have hp := parseB_dec (8 * fol op) u (by rw [← pow_fol]; exact pow_le op) (by rw [← pow_fol]; exact hu)
  unfold lineE
  rw [hn, opF_nm op ho, hh, e3]
  simp only [Int.toNat_natCast]
  rw [if_neg (by simp), if_neg (by simp; omega), if_neg hf, hp]
  simp only [if_true]
  rfl
theorem lineE_bad (s : ByteArray) (op : Nat) (ho : op < 18) (hn : lnName s = nm op) (hh : lnHas s = true) (hf : fol op ≠ 0) (hd : ∀ u, u < 256 ^ fol op → (lnNum s).data.toList ≠ Lib.decDigits u) : lineE s = (10, []) := by
  unfold lineE
  rw [hn, opF_nm op ho, hh]
  simp only [Int.toNat_natCast]
  rw [if_neg (by simp), if_neg (by simp; omega), if_neg hf]
  cases hu : Lib.parseUintB (8 * fol op) (lnNum s).data.toList with
  | ok u =>
    simp only
    rw [if_neg]
    intro h
    have hle := parseB_le hu
    have hp : 0 < 2 ^ (8 * fol op) := Nat.pow_pos (by omega)
    refine hd u (by rw [pow_fol]; omega) ?_
    rw [← h]
  | «syntax» => rfl
  | range => rfl
/-- What digits come to, as long as it is a number of 64 bits. -/
def scanD : List UInt8 → Nat → Option Nat
  | [], a => some a
  | b :: r, a => if b.toNat < 48 ∨ 57 < b.toNat then none else if (18446744073709551615 - (b.toNat - 48)) / 10 < a then none else scanD r (a * 10 + (b.toNat - 48))
theorem scanD_app : ∀ (x y : List UInt8) (a : Nat), scanD (x ++ y) a = (scanD x a).bind (scanD y)
  | [], y, a => rfl
  | b :: r, y, a => by
    rw [List.cons_append]
    unfold scanD
    by_cases h1 : b.toNat < 48 ∨ 57 < b.toNat
    · rw [if_pos h1, if_pos h1]; rfl
    · rw [if_neg h1, if_neg h1]
      by_cases h2 : (18446744073709551615 - (b.toNat - 48)) / 10 < a
      · rw [if_pos h2, if_pos h2]; rfl
      · rw [if_neg h2, if_neg h2]
        exact scanD_app r y _
theorem scanD_dec (u : Nat) (hu : u < 18446744073709551616) : scanD (Lib.decDigits u) 0 = some u := by
  induction u using Nat.strongRecOn with
  | ind u ih =>
    by_cases h : 9 < u
    · rw [dec_step u h, scanD_app, ih (u / 10) (by omega) (by omega)]
      have hb : (UInt8.ofNat (48 + u % 10)).toNat = 48 + u % 10 := by
        rw [UInt8.toNat_ofNat']; omega
      show scanD [UInt8.ofNat (48 + u % 10)] (u / 10) = some u
      unfold scanD
      rw [hb, if_neg (by omega), if_neg (by omega)]
      show some _ = some u
      congr 1
      omega
    · rw [dec_last u h]
      have hb : (UInt8.ofNat (48 + u)).toNat = 48 + u := by
        rw [UInt8.toNat_ofNat']; omega
      unfold scanD
      rw [hb, if_neg (by omega), if_neg (by omega)]
      show some _ = some u
      congr 1
      omega
end Go.Proofs.YtkilajobnlagbaaDoor
