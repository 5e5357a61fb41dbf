/-
  A program is the orders that its text tells.
-/
import Derived.Test.YtkilajobnlagbaaDoorCodEG
namespace Go.Proofs.YtkilajobnlagbaaDoor
open Go.RowKit
set_option linter.unusedVariables false

def flatO (O : List (Nat × Nat)) : List Int := (O.map segO).flatten
theorem at_seg (pre r : List Int) (o : Nat × Nat) (h : Good o) : opAt (pre ++ (segO o ++ r)) pre.length = o.1 ∧ ordE (pre ++ (segO o ++ r)) pre.length = 0 ∧ numAt (pre ++ (segO o ++ r)) pre.length = (o.2 : Int) := by
  have h1 : opAt (pre ++ (segO o ++ r)) pre.length = o.1 := by
    unfold opAt segO
    simp [List.getD]
  have hl := segO_len o
  have h1' := h.1
  refine ⟨h1, ?_, ?_⟩
  · unfold ordE
    rw [h1]
    simp only [List.length_append]
    rw [if_neg (by omega), if_neg (by omega), if_neg (by omega)]
  · unfold numAt
    rw [h1]
    have e : (pre ++ (segO o ++ r)).drop (pre.length + 1) = (Oct.be8 (o.2 : Int)).drop (8 - fol o.1) ++ r := by
      rw [show pre ++ (segO o ++ r) = (pre ++ [(o.1 : Int)]) ++ ((Oct.be8 (o.2 : Int)).drop (8 - fol o.1) ++ r) by unfold segO; simp]
      exact List.drop_left' (by simp)
    rw [e, List.take_left' (by rw [List.length_drop, be8_len]; have := fol_in o.1; omega)]
    exact num_drop (fol o.1) o.2 (fol_in o.1) h.2
/-- A row of orders is gone through. -/
theorem begF_flat : ∀ (O : List (Nat × Nat)) (pre : List Int) (f : Nat) (bs : List Nat), (∀ o ∈ O, Good o) → O.length < f →
    ∃ bs', begF (pre ++ flatO O) f pre.length bs = (0, bs ++ bs') ∧ linesOf (pre ++ flatO O) bs' = O.map lineO
  | [], pre, f, bs, _, hf => by
    obtain ⟨f, rfl⟩ : ∃ k, f = k + 1 := ⟨f - 1, by simp at hf; omega⟩
    refine ⟨[], ?_, rfl⟩
    rw [begF, if_pos (by simp [flatO])]
    simp
  | o :: O, pre, f, bs, hg, hf => by
    obtain ⟨f, rfl⟩ : ∃ k, f = k + 1 := ⟨f - 1, by simp at hf; omega⟩
    have ho := hg o (by simp)
    have e : pre ++ flatO (o :: O) = pre ++ (segO o ++ flatO O) := by simp [flatO]
    obtain ⟨h1, h2, h3⟩ := at_seg pre (flatO O) o ho
    have e2 : pre ++ (segO o ++ flatO O) = (pre ++ segO o) ++ flatO O := by simp
    have hl := segO_len o
    obtain ⟨bs', hb, hls⟩ := begF_flat O (pre ++ segO o) f (bs ++ [pre.length]) (fun x hx => hg x (by simp [hx])) (by simp at hf; omega)
    refine ⟨pre.length :: bs', ?_, ?_⟩
    · rw [e, begF, if_neg (by simp only [List.length_append]; omega), h2, if_neg (by simp), h1]
      rw [show pre.length + 1 + fol o.1 = (pre ++ segO o).length by rw [List.length_append]; omega, e2, hb]
      simp
    · rw [e]
      rw [← e2] at hls
      unfold linesOf at hls ⊢
      rw [List.map_cons, List.map_cons, hls, h1, h3, Int.toNat_natCast]
      rfl
/-- A whole program is a row of orders. -/
theorem flat_begF (p : List Int) (hp : ∀ b ∈ p, 0 ≤ b ∧ b < 256) : ∀ (f at_ : Nat) (bs : List Nat), p.length < f + at_ → at_ ≤ p.length → (begF p f at_ bs).1 = 0 →
    ∃ O : List (Nat × Nat), (∀ o ∈ O, Good o) ∧ p.drop at_ = flatO O
  | 0, at_, bs, h1, h2, _ => by omega
  | f + 1, at_, bs, h1, h2, h => by
    rw [begF] at h
    by_cases hle : p.length ≤ at_
    · refine ⟨[], by simp, ?_⟩
      rw [List.drop_eq_nil_of_le hle]
      rfl
    rw [if_neg hle] at h
    by_cases he : ordE p at_ ≠ 0
    · rw [if_pos he] at h
      exact absurd h he
    rw [if_neg he] at h
    have he : ordE p at_ = 0 := by simpa using he
    unfold ordE at he
    rw [if_neg hle] at he
    by_cases h18 : 18 ≤ opAt p at_
    · rw [if_pos h18] at he; simp at he
    rw [if_neg h18] at he
    by_cases hs : p.length < at_ + 1 + fol (opAt p at_)
    · rw [if_pos hs] at he; simp at he
    obtain ⟨O, hO, hd⟩ := flat_begF p hp f (at_ + 1 + fol (opAt p at_)) _ (by omega) (by omega) h
    have hb0 := hp (p.getD at_ 0) (by rw [List.getD, List.getElem?_eq_getElem (by omega)]; exact List.getElem_mem _)
    obtain ⟨u, hu1, hu2, hu3⟩ := drop_num (fol (opAt p at_)) ((p.drop (at_ + 1)).take (fol (opAt p at_))) (fol_in _) (by rw [List.length_take, List.length_drop]; omega) (fun b hb => hp b (List.mem_of_mem_drop (List.mem_of_mem_take hb)))
    refine ⟨(opAt p at_, u) :: O, ?_, ?_⟩
    · intro o ho
      rcases List.mem_cons.1 ho with rfl | ho
      · exact ⟨by omega, hu2⟩
      · exact hO o ho
    · have e1 : p.drop at_ = p.getD at_ 0 :: p.drop (at_ + 1) := by
        rw [List.drop_eq_getElem_cons (by omega)]
        simp [List.getD, show at_ < p.length by omega]
      have e2 : p.drop (at_ + 1) = (p.drop (at_ + 1)).take (fol (opAt p at_)) ++ p.drop (at_ + 1 + fol (opAt p at_)) := by
        have e3 : (p.drop (at_ + 1)).drop (fol (opAt p at_)) = p.drop (at_ + 1 + fol (opAt p at_)) := by rw [List.drop_drop]
        rw [← e3]
        exact (List.take_append_drop _ _).symm
      rw [e1, e2, hd]
      show _ = segO (opAt p at_, u) ++ flatO O
      have e4 : segO (opAt p at_, u) = p.getD at_ 0 :: (p.drop (at_ + 1)).take (fol (opAt p at_)) := by
        unfold segO
        rw [hu3]
        congr 1
        unfold opAt
        simp only
        omega
      rw [e4]
      rfl
theorem join_ne (x : List UInt8) (r : List (List UInt8)) (h : x ≠ []) : Lib.join (x :: r) [10] ≠ [] := by
  rw [Lib.join_cons]
  simp [h]
theorem lineO_plain (o : Nat × Nat) (h : Good o) : (10 : UInt8) ∉ (lineO o).data.toList ∧ (lineO o).data.toList ≠ [] := by
  have hn := nm_plain o.1 h.1
  by_cases hf : fol o.1 = 0
  · rw [lineO_zero o hf]
    exact ⟨hn.2.1, hn.2.2⟩
  · rw [lineO_more o hf]
    refine ⟨?_, by simp⟩
    intro hm
    rcases List.mem_append.1 hm with hm | hm
    · exact hn.2.1 hm
    · rcases List.mem_cons.1 hm with hm | hm
      · exact absurd hm (by decide)
      · have := decD_bytes o.2 _ hm
        simp at this
theorem map_data (L M : List ByteArray) (h : L.map (·.data.toList) = M.map (·.data.toList)) : L = M := by
  induction L generalizing M with
  | nil => cases M with
    | nil => rfl
    | cons b M => simp at h
  | cons a L ih => cases M with
    | nil => simp at h
    | cons b M =>
      simp only [List.map_cons, List.cons.injEq] at h
      rw [ba_ext h.1, ih M h.2]
/-- A text of lines is taken apart into them. -/
theorem lines_join (L : List ByteArray) (hL : L ≠ []) (h : ∀ x ∈ L, (10 : UInt8) ∉ x.data.toList) : linesT (joinS L) = L := by
  cases L with
  | nil => exact absurd rfl hL
  | cons x r =>
    have hs := split_join 10 x.data.toList (r.map (·.data.toList)) (by
      intro y hy
      rcases List.mem_cons.1 hy with rfl | hy
      · exact h x (by simp)
      · obtain ⟨z, hz, rfl⟩ := List.mem_map.1 hy
        exact h z (by simp [hz]))
    have ht : (joinS (x :: r)).data.toList = Lib.join (x.data.toList :: r.map (·.data.toList)) [10] := rfl
    have hc : Lib.countB (joinS (x :: r)) ⟨#[10]⟩ = r.length := by
      show Lib.count (joinS (x :: r)).data.toList [10] = _
      rw [Lib.count_one, ht, hs.2, List.length_map]
    apply map_data
    unfold linesT
    rw [hc, Lib.splitB_data]
    show Lib.splitK [10] 0 r.length (joinS (x :: r)).data.toList = _
    rw [ht]
    have := hs.1
    rw [List.length_map] at this
    exact this
theorem join_lines (t : ByteArray) : joinS (linesT t) = t := by
  apply ba_ext
  show Lib.join ((linesT t).map (·.data.toList)) [10] = _
  unfold linesT
  rw [Lib.splitB_data]
  exact join_split 10 _ _
theorem lines_ne (t : ByteArray) : linesT t ≠ [] := by
  intro h
  have : (linesT t).length = Lib.countB t ⟨#[10]⟩ + 1 := Lib.splitB_all _ (by decide) 0 _ t rfl
  rw [h] at this
  simp at this
theorem ordsV_nil : ordsV [] = (0, []) := by decide
theorem ordsV_zero (p : List Int) (h : (ordsV p).1 = 0) : (begF p (p.length + 1) 0 []).1 = 0 ∧ (ordsV p).2 = (begF p (p.length + 1) 0 []).2 := by
  unfold ordsV at h ⊢
  split at h
  · simp at h
  · rename_i h1
    rw [if_neg h1]
    split at h
    · rename_i h2
      exact absurd h h2
    · rename_i h2
      rw [if_neg h2]
      split at h
      · simp at h
      · rename_i h3
        rw [if_neg h3]
        exact ⟨by simpa using h2, rfl⟩
theorem flatO_len (O : List (Nat × Nat)) : O.length ≤ (flatO O).length := by
  induction O with
  | nil => simp
  | cons o O ih =>
    have := segO_len o
    unfold flatO at ih ⊢
    simp only [List.map_cons, List.flatten_cons, List.length_append, List.length_cons]
    omega
theorem lines_flat (O : List (Nat × Nat)) (hO : ∀ o ∈ O, Good o) (h : (ordsV (flatO O)).1 = 0) : linesOf (flatO O) (ordsV (flatO O)).2 = O.map lineO := by
  have h1 := ordsV_zero _ h
  obtain ⟨bs', hb, hl⟩ := begF_flat O [] ((flatO O).length + 1) [] hO (by have := flatO_len O; omega)
  rw [h1.2]
  simp only [List.nil_append, List.length_nil] at hb hl
  rw [hb]
  exact hl
theorem allL_O (O : List (Nat × Nat)) (hO : ∀ o ∈ O, Good o) : allL (O.map lineO) = flatO O := by
  unfold allL flatO
  rw [List.map_map]
  congr 1
  apply List.map_congr_left
  intro o ho
  show (lineE (lineO o)).2 = segO o
  rw [lineE_O o (hO o ho)]
theorem lines_O : ∀ (L : List ByteArray), firstBad L = 0 → ∃ O : List (Nat × Nat), (∀ o ∈ O, Good o) ∧ L = O.map lineO
  | [], _ => ⟨[], by simp, rfl⟩
  | s :: r, h => by
    unfold firstBad at h
    by_cases hs : (lineE s).1 ≠ 0
    · rw [if_pos hs] at h
      exact absurd h hs
    rw [if_neg hs] at h
    obtain ⟨o, ho, rfl⟩ := lineE_inv s (by simpa using hs)
    obtain ⟨O, hO, rfl⟩ := lines_O r h
    exact ⟨o :: O, by intro x hx; rcases List.mem_cons.1 hx with rfl | hx; exact ho; exact hO x hx, rfl⟩
/-- A program's text is parsed as it. -/
theorem text_back (p : List Int) (hp : ∀ b ∈ p, 0 ≤ b ∧ b < 256) (h : (ordsV p).1 = 0) (hs : (textV p).size ≤ 4096) : parseV (textV p) = (0, p) := by
  have h1 := ordsV_zero p h
  obtain ⟨O, hO, hd⟩ := flat_begF p hp (p.length + 1) 0 [] (by omega) (by omega) h1.1
  rw [List.drop_zero] at hd
  subst hd
  have ht : textV (flatO O) = joinS (O.map lineO) := by
    unfold textV
    rw [if_neg (by simpa using h), lines_flat O hO h]
  rw [ht] at hs ⊢
  cases O with
  | nil => rfl
  | cons o O =>
    have ho := hO o (by simp)
    have hne : joinS ((o :: O).map lineO) ≠ ⟨#[]⟩ := by
      intro e
      have := congrArg (fun b : ByteArray => b.data.toList) e
      exact join_ne _ _ (lineO_plain o ho).2 this
    have hl := lines_join ((o :: O).map lineO) (by simp) (by
      intro x hx
      obtain ⟨y, hy, rfl⟩ := List.mem_map.1 hx
      exact (lineO_plain y (hO y hy)).1)
    have hf : firstBad ((o :: O).map lineO) = 0 := firstBad_none _ (by
      intro i hi
      rw [List.length_map] at hi
      rw [List.getD, List.getElem?_map, List.getElem?_eq_getElem hi, Option.map_some, Option.getD_some, lineE_O _ (hO _ (List.getElem_mem _))])
    unfold parseV
    rw [if_neg (by omega), if_neg hne, hl, hf, if_neg (by simp), allL_O _ hO, if_neg (by simpa using h)]
/-- What is parsed has that text. -/
theorem parse_back (t : ByteArray) (h : (parseV t).1 = 0) : (ordsV (parseV t).2).1 = 0 ∧ textV (parseV t).2 = t := by
  unfold parseV at h ⊢
  split at h
  · simp at h
  · rename_i h1
    rw [if_neg h1]
    split at h
    · rename_i h2
      rw [if_pos h2]
      subst h2
      refine ⟨by rw [ordsV_nil], ?_⟩
      rfl
    · rename_i h2
      rw [if_neg h2]
      split at h
      · rename_i h3
        exact absurd h h3
      · rename_i h3
        rw [if_neg h3]
        split at h
        · rename_i h4
          exact absurd h h4
        · rename_i h4
          rw [if_neg h4]
          have h4 : (ordsV (allL (linesT t))).1 = 0 := by simpa using h4
          refine ⟨h4, ?_⟩
          obtain ⟨O, hO, hL⟩ := lines_O (linesT t) (by simpa using h3)
          simp only
          rw [hL, allL_O O hO] at h4 ⊢
          unfold textV
          rw [if_neg (by simpa using h4), lines_flat O hO h4, ← hL]
          exact join_lines t
end Go.Proofs.YtkilajobnlagbaaDoor
