/-
  Orders there and back: a line is laid as its order; a program is a row of orders.
-/
import Derived.Test.YtkilajobnlagbaaDoorCodEF
namespace Go.Proofs.YtkilajobnlagbaaDoor
open Go.RowKit
set_option linter.unusedVariables false

/-- An order and its number. -/
def Good (o : Nat × Nat) : Prop := o.1 < 18 ∧ o.2 < 256 ^ fol o.1
def segO (o : Nat × Nat) : List Int := (o.1 : Int) :: (Oct.be8 (o.2 : Int)).drop (8 - fol o.1)
def lineO (o : Nat × Nat) : ByteArray := lineS (nm o.1) (fol o.1) o.2
theorem nm_data (op : Nat) : (nm op).data.toList = nmB op := rfl
theorem opF_nm : ∀ op < 18, opF (nm op) 18 0 = ((op : Int), true) := by decide +kernel
theorem nm_plain : ∀ op < 18, (32 : UInt8) ∉ nmB op ∧ (10 : UInt8) ∉ nmB op ∧ nmB op ≠ [] := by decide +kernel
theorem lineO_zero (o : Nat × Nat) (h : fol o.1 = 0) : (lineO o).data.toList = nmB o.1 := by
  unfold lineO lineS
  rw [if_pos h]
  rfl
theorem lineO_more (o : Nat × Nat) (h : fol o.1 ≠ 0) : (lineO o).data.toList = nmB o.1 ++ 32 :: Lib.decDigits o.2 := by
  unfold lineO lineS
  rw [if_neg h]
  simp [nm]
theorem ba_ext {a b : ByteArray} (h : a.data.toList = b.data.toList) : a = b := by
  cases a with | mk x => cases b with | mk y =>
  exact congrArg ByteArray.mk (Array.toList_inj.1 h)
theorem pow_fol (op : Nat) : 256 ^ fol op = 2 ^ (8 * fol op) := by
  rw [Nat.pow_mul]
theorem pow_le (op : Nat) : 256 ^ fol op ≤ 18446744073709551616 := by
  rcases fol_in op with h | h | h | h <;> rw [h] <;> decide
theorem lineE_O (o : Nat × Nat) (h : Good o) : lineE (lineO o) = (0, segO o) := by
  obtain ⟨op, u⟩ := o
  obtain ⟨h1, h2⟩ := h
  have hn := nm_plain op h1
  simp only at h1 h2
  by_cases hf : fol op = 0
  · have hc : Lib.cut (lineO (op, u)).data.toList [32] = (nmB op, [], false) := by
      rw [lineO_zero (op, u) hf]
      exact cut_out 32 _ hn.1
    have e1 : lnName (lineO (op, u)) = nm op := by unfold lnName; rw [hc]; rfl
    have e2 : lnHas (lineO (op, u)) = false := by unfold lnHas; rw [hc]
    unfold lineE
    rw [e1, e2, opF_nm op h1]
    simp only [Int.toNat_natCast, hf]
    rw [if_neg (by simp), if_neg (by simp), if_pos trivial]
    unfold segO
    simp only [hf]
    rfl
  · have hc : Lib.cut (lineO (op, u)).data.toList [32] = (nmB op, Lib.decDigits u, true) := by
      rw [lineO_more (op, u) hf]
      exact cut_in 32 _ _ hn.1
    have e1 : lnName (lineO (op, u)) = nm op := by unfold lnName; rw [hc]; rfl
    have e2 : lnHas (lineO (op, u)) = true := by unfold lnHas; rw [hc]
    have e3 : lnNum (lineO (op, u)) = ⟨(Lib.decDigits u).toArray⟩ := by unfold lnNum; rw [hc]
    have hp := parseB_dec (8 * fol op) u (by rw [← pow_fol]; exact pow_le op) (by rw [← pow_fol]; exact h2)
    unfold lineE
    rw [e1, e2, e3, opF_nm op h1]
    simp only [Int.toNat_natCast]
    rw [if_neg (by simp), if_neg (by simp; omega), if_neg hf, hp]
    simp only [if_true]
    rfl
theorem lineE_inv (s : ByteArray) (h : (lineE s).1 = 0) : ∃ o, Good o ∧ s = lineO o := by
  unfold lineE at h
  by_cases h1 : (opF (lnName s) 18 0).2 = false
  · rw [if_pos h1] at h; simp at h
  rw [if_neg h1] at h
  obtain ⟨op, ho, _, hop, hnm⟩ := opF_some (lnName s) 18 0 (by simpa using h1)
  have hop : op < 18 := by omega
  rw [ho, Int.toNat_natCast] at h
  have hnm2 : (Lib.cut s.data.toList [32]).1 = nmB op := by
    have := congrArg (fun b : ByteArray => b.data.toList) hnm
    simpa [lnName, nm] using this.symm
  by_cases hf : lnHas s ≠ decide (0 < fol op)
  · rw [if_pos hf] at h; simp at h
  rw [if_neg hf] at h
  have hf : lnHas s = decide (0 < fol op) := by simpa using hf
  have hci := cut_inv 32 s.data.toList
  by_cases hz : fol op = 0
  · refine ⟨(op, 0), ⟨hop, by simp [hz]⟩, ba_ext ?_⟩
    rw [lineO_zero (op, 0) hz]
    rcases hci with ⟨h2, _⟩ | ⟨_, h3⟩
    · have : lnHas s = true := h2
      rw [this, hz] at hf
      simp at hf
    · rw [← h3, hnm2]
  · rw [if_neg hz] at h
    have hh : lnHas s = true := by rw [hf]; exact decide_eq_true (by omega)
    rcases hci with ⟨h2, h3⟩ | ⟨h2, _⟩
    · cases hu : Lib.parseUintB (8 * fol op) (lnNum s).data.toList with
      | ok u =>
        rw [hu] at h
        simp only at h
        by_cases hd : (⟨(Lib.decDigits u).toArray⟩ : ByteArray) = lnNum s
        · refine ⟨(op, u), ⟨hop, ?_⟩, ba_ext ?_⟩
          · have := parseB_le hu
            have hp : 0 < 2 ^ (8 * fol op) := Nat.pow_pos (by omega)
            show u < 256 ^ fol op
            rw [pow_fol]
            omega
          · rw [lineO_more (op, u) hz]
            have hd2 : (Lib.cut s.data.toList [32]).2.1 = Lib.decDigits u := by
              have := congrArg (fun b : ByteArray => b.data.toList) hd
              simpa [lnNum] using this.symm
            rw [hnm2, hd2] at h3
            exact h3
        · rw [if_neg hd] at h; simp at h
      | «syntax» => rw [hu] at h; simp at h
      | range => rw [hu] at h; simp at h
    · have : lnHas s = false := h2
      rw [this] at hh
      cases hh
theorem be8_len (u : Int) : (Oct.be8 u).length = 8 := by
  have := Oct.be8s_length [u]
  rw [Oct.be8s_one] at this
  exact this
theorem segO_len (o : Nat × Nat) : (segO o).length = 1 + fol o.1 := by
  unfold segO
  rw [List.length_cons, List.length_drop, be8_len]
  have := fol_in o.1
  omega
/-- The last bytes of a number hold it. -/
theorem num_drop (F u : Nat) (hF : F = 0 ∨ F = 1 ∨ F = 2 ∨ F = 8) (hu : u < 256 ^ F) : Oct.numB ((Oct.be8 (u : Int)).drop (8 - F)) 0 = (u : Int) := by
  rcases hF with h | h | h | h <;> subst h
  · simp at hu
    subst hu
    rfl
  · simp at hu
    simp only [Oct.be8, Oct.be4, List.cons_append, List.nil_append, List.drop_succ_cons, List.drop_zero, Oct.numB]
    omega
  · simp at hu
    simp only [Oct.be8, Oct.be4, List.cons_append, List.nil_append, List.drop_succ_cons, List.drop_zero, Oct.numB]
    omega
  · simp at hu
    exact Oct.be8_num (u : Int) (by omega) (by omega)
/-- Bytes are the last ones of their number. -/
theorem drop_num (F : Nat) (l : List Int) (hF : F = 0 ∨ F = 1 ∨ F = 2 ∨ F = 8) (hl : l.length = F) (hb : ∀ b ∈ l, 0 ≤ b ∧ b < 256) : ∃ u : Nat, Oct.numB l 0 = (u : Int) ∧ u < 256 ^ F ∧ (Oct.be8 (u : Int)).drop (8 - F) = l := by
  obtain ⟨h1, h2⟩ := numB_lt l hb 0 (by omega)
  obtain ⟨u, hu⟩ : ∃ u : Nat, Oct.numB l 0 = (u : Int) := ⟨(Oct.numB l 0).toNat, by omega⟩
  refine ⟨u, hu, ?_, ?_⟩
  · rw [hu, hl] at h2
    have e : ((256 ^ F : Nat) : Int) = (256 : Int) ^ F := by simp
    omega
  · rw [← hu]
    clear h1 h2 hu
    rcases hF with h | h | h | h <;> subst h
    · rw [List.eq_nil_of_length_eq_zero hl]
      rfl
    · match l, hl with
      | [a], _ =>
        have ha := hb a (by simp)
        simp only [Oct.be8, Oct.be4, List.cons_append, List.nil_append, List.drop_succ_cons, List.drop_zero, Oct.numB]
        congr 1
        omega
    · match l, hl with
      | [a, b], _ =>
        have ha := hb a (by simp)
        have hb2 := hb b (by simp)
        simp only [Oct.be8, Oct.be4, List.cons_append, List.nil_append, List.drop_succ_cons, List.drop_zero, Oct.numB, List.cons.injEq, and_true]
        omega
    · match l, hl with
      | [a, b, c, d, e, f, g, h], _ =>
        have h1 := hb a (by simp)
        have h2 := hb b (by simp)
        have h3 := hb c (by simp)
        have h4 := hb d (by simp)
        have h5 := hb e (by simp)
        have h6 := hb f (by simp)
        have h7 := hb g (by simp)
        have h8 := hb h (by simp)
        simp only [Oct.be8, Oct.be4, List.cons_append, List.nil_append, List.drop_zero, Nat.sub_self, Oct.numB, List.cons.injEq, and_true]
        omega
end Go.Proofs.YtkilajobnlagbaaDoor
