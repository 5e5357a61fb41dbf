/-
  parseLine 35 of any line; Parse 16 of any text.
-/
import Derived.Test.YtkilajobnlagbaaDoorCodEC
namespace Go.Proofs.YtkilajobnlagbaaDoor
open Go.RowKit
set_option linter.unusedVariables false

/-- What a line is laid as: an error and bytes. -/
def lineE (s : ByteArray) : Int × List Int :=
  if (opF (lnName s) 18 0).2 = false then (40, []) else
  if lnHas s ≠ decide (0 < fol (opF (lnName s) 18 0).1.toNat) then (10, []) else
  if fol (opF (lnName s) 18 0).1.toNat = 0 then (0, [(opF (lnName s) 18 0).1]) else
  match Lib.parseUintB (8 * fol (opF (lnName s) 18 0).1.toNat) (lnNum s).data.toList with
  | .ok u => if (⟨(Lib.decDigits u).toArray⟩ : ByteArray) = lnNum s then (0, (opF (lnName s) 18 0).1 :: (Oct.be8 (u : Int)).drop (8 - fol (opF (lnName s) 18 0).1.toNat)) else (10, [])
  | _ => (10, [])
theorem parseM_le : ∀ (l : List UInt8) (M acc u : Nat), acc ≤ M → Lib.parseUintM M acc l = .ok u → u ≤ M
  | [], M, acc, u, ha, h => by
    simp only [Lib.parseUintM] at h
    injection h with h
    omega
  | c :: r, M, acc, u, ha, h => by
    simp only [Lib.parseUintM] at h
    split at h
    · split at h
      · cases h
      · split at h
        · cases h
        · rename_i h3
          exact parseM_le r M _ u (by omega) h
    · cases h
theorem parseB_le {B : Nat} {l : List UInt8} {u : Nat} (h : Lib.parseUintB B l = .ok u) : u ≤ 2 ^ B - 1 := by
  unfold Lib.parseUintB at h
  split at h
  · cases h
  · exact parseM_le l _ 0 u (Nat.zero_le _) h
theorem fol_in (op : Nat) : fol op = 0 ∨ fol op = 1 ∨ fol op = 2 ∨ fol op = 8 := by
  by_cases h : op < 18
  · have : ∀ k < 18, fol k = 0 ∨ fol k = 1 ∨ fol k = 2 ∨ fol k = 8 := by decide
    exact this op h
  · left
    show (([0, 8, 1, 0, 0, 0, 0, 0, 0, 0, 0, 2, 2, 0, 0, 0, 1, 0] : List Nat)[op]?).getD 0 = 0
    rw [List.getElem?_eq_none (by simpa using Nat.le_of_not_lt h)]
    rfl
/-- What comes of a line, whatever it is. -/
def ParPost (w : World) (c : Int) (l : List Int) (e : Ending) (w' : World) : Prop := ∃ v, e = .returned (.tuple #[v, .int .i64 c]) ∧ Oct.Own w' w.heap.size v l ∧ Below w.heap.size w w'
theorem LnPost.par {w : World} {l : List Int} {e : Ending} {w' : World} (h : LnPost w l e w') : ParPost w 0 l e w' := h
theorem BadPost.par {w : World} {c : Nat} {e : Ending} {w' : World} (h : BadPost w c e w') : ParPost w (c : Int) [] e w' := ⟨_, h.1, Oct.Own.nil _ _, h.2⟩
theorem pline_any (s : ByteArray) (w : World) (hs : s.size ≤ 281474976) (HM : Hid (MCell w)) (HT : Hid (KTab w)) (HPT : Hid (PTab w)) (HE3 : Hid (ECell 3 w)) (HE4 : Hid (ECell 4 w)) :
    Calls Tryd.prog 35 #[.string s] w (ParPost w (lineE s).1 (lineE s).2) := by
  have hs1 : s.size < 4294967281 := by omega
  have hD : (lnNum s).size ≤ 281474976 := by
    have h1 : (lnNum s).size = (Lib.cut s.data.toList [32]).2.1.length := by
      show ((Lib.cut s.data.toList [32]).2.1.toArray).size = _
      rw [List.size_toArray]
    have h2 : (Lib.cut s.data.toList [32]).2.1.length ≤ s.data.toList.length := by
      unfold Lib.cut
      split
      · rw [List.length_drop]; omega
      · simp
    have h3 : s.data.toList.length = s.size := by rw [Array.length_toList]; rfl
    omega
  unfold lineE
  by_cases h : (opF (lnName s) 18 0).2 = false
  · rw [if_pos h]
    exact (parseLine_noname s w hs1 HM HT h).mono fun e w' h => BadPost.par h
  have h' : (opF (lnName s) 18 0).2 = true := by simpa using h
  rw [if_neg h]
  obtain ⟨op, ho, _, hop, _⟩ := opF_some (lnName s) 18 0 h'
  have hop : op < 18 := by omega
  rw [ho, Int.toNat_natCast]
  by_cases hf : lnHas s ≠ decide (0 < fol op)
  · rw [if_pos hf]
    exact (parseLine_form s op w hs1 HM HT h' ho hop hf).mono fun e w' h => BadPost.par h
  rw [if_neg hf]
  have hf : lnHas s = decide (0 < fol op) := by simpa using hf
  have hfi := fol_in op
  rcases hfi with hF | hfi
  · rw [if_pos hF]
    exact (parseLine_plain s op w hs1 HM HT h' ho hop hF (by rw [hf, hF]; rfl)).mono fun e w' h => LnPost.par h
  have hft : lnHas s = true := by rw [hf]; exact decide_eq_true (by omega)
  rw [if_neg (by omega)]
  rcases hfi with hF | hF | hF
  · rw [hF]
    cases hu : Lib.parseUintB (8 * 1) (lnNum s).data.toList with
    | ok u =>
      have hu64 : u < 18446744073709551616 := by have := parseB_le hu; simp at this; omega
      by_cases hd : (⟨(Lib.decDigits u).toArray⟩ : ByteArray) = lnNum s
      · simp only [if_pos hd]
        exact (parseLine_num1 s op w hs1 HM HT h' ho hop hF hft u hu hu64 hd (by omega) HPT).mono fun e w' h => LnPost.par h
      · simp only [if_neg hd]
        exact (parseLine_unlike1 s op w hs1 HM HT h' ho hop hF hft u hu hu64 hd (by omega) HPT).mono fun e w' h => BadPost.par h
    | «syntax» => exact (parseLine_syntax1 s op w hs1 HM HT h' ho hop hF hft hu (by omega) HE3).mono fun e w' h => BadPost.par h
    | range => exact (parseLine_range1 s op w hs1 HM HT h' ho hop hF hft hu (by omega) HE4).mono fun e w' h => BadPost.par h
  · rw [hF]
    cases hu : Lib.parseUintB (8 * 2) (lnNum s).data.toList with
    | ok u =>
      have hu64 : u < 18446744073709551616 := by have := parseB_le hu; simp at this; omega
      by_cases hd : (⟨(Lib.decDigits u).toArray⟩ : ByteArray) = lnNum s
      · simp only [if_pos hd]
        exact (parseLine_num2 s op w hs1 HM HT h' ho hop hF hft u hu hu64 hd (by omega) HPT).mono fun e w' h => LnPost.par h
      · simp only [if_neg hd]
        exact (parseLine_unlike2 s op w hs1 HM HT h' ho hop hF hft u hu hu64 hd (by omega) HPT).mono fun e w' h => BadPost.par h
    | «syntax» => exact (parseLine_syntax2 s op w hs1 HM HT h' ho hop hF hft hu (by omega) HE3).mono fun e w' h => BadPost.par h
    | range => exact (parseLine_range2 s op w hs1 HM HT h' ho hop hF hft hu (by omega) HE4).mono fun e w' h => BadPost.par h
  · rw [hF]
    cases hu : Lib.parseUintB (8 * 8) (lnNum s).data.toList with
    | ok u =>
      have hu64 : u < 18446744073709551616 := by have := parseB_le hu; simp at this; omega
      by_cases hd : (⟨(Lib.decDigits u).toArray⟩ : ByteArray) = lnNum s
      · simp only [if_pos hd]
        exact (parseLine_num8 s op w hs1 HM HT h' ho hop hF hft u hu hu64 hd (by omega) HPT).mono fun e w' h => LnPost.par h
      · simp only [if_neg hd]
        exact (parseLine_unlike8 s op w hs1 HM HT h' ho hop hF hft u hu hu64 hd (by omega) HPT).mono fun e w' h => BadPost.par h
    | «syntax» => exact (parseLine_syntax8 s op w hs1 HM HT h' ho hop hF hft hu (by omega) HE3).mono fun e w' h => BadPost.par h
    | range => exact (parseLine_range8 s op w hs1 HM HT h' ho hop hF hft hu (by omega) HE4).mono fun e w' h => BadPost.par h
end Go.Proofs.YtkilajobnlagbaaDoor
