/-
  An octet In of any kind, good or bad: next of too much, Fail, One, Four, Many: what each answers, and what is left.
-/
import Derived.Test.YtkonokjhpddbfaaDoorRngBC
namespace Go.Proofs.YtkonokjhpddbfaaDoor.Oct
open Go.RowKit
set_option linter.unusedVariables false

theorem fail_good (f : Nat) (hf : f ≠ 0) (g : Nat) (l : List Int) (w : World) (HI : Hid (InAt w g l)) : Calls Tryd.prog 103 #[.pointer (some ⟨g, 0, none⟩), .int .i64 (f : Int)] w fun r w' => r = .returned (.tuple #[]) ∧ InE w' g f ∧ w.grownBy w' (some g) := by
  have hf2 : ¬ ((f : Int) = 0) := by omega
  obtain ⟨gr, o, c, h1, _⟩ := HI.out.ex
  have c1 := h1.cell 1
  have c0 := h1.cell 0
  have f1 := h1.frozen 1
  have c0' := (h1.set_ 1 (.int .i64 (f : Int))).cell 0
  have f0' := (h1.set_ 1 (.int .i64 (f : Int))).frozen 0
  have HE : Hid (InE ((w.setCell ⟨g, 1, none⟩ (.int .i64 (f : Int))).setCell ⟨g, 0, none⟩ (.slice none 0 0)) g f) := Lib.hid ((h1.set_ 1 (.int .i64 (f : Int))).set_ 0 (.slice none 0 0))
  have HG : Hid (w.grownBy ((w.setCell ⟨g, 1, none⟩ (.int .i64 (f : Int))).setCell ⟨g, 0, none⟩ (.slice none 0 0)) (some g)) := Lib.hid ((only_set w g 1 _).trans (only_set _ g 0 _))
  clear h1
  go_enter Tryd.func103, Tryd.ntmps103
  go_wp2
  go_end0
  exact ⟨rfl, HE.out, HG.out⟩
theorem next_short (n : Nat) (g : Nat) (l : List Int) (w : World) (HI : Hid (InAt w g l)) (hl : l.length < n) : Calls Tryd.prog 97 #[.pointer (some ⟨g, 0, none⟩), .int .i64 (n : Int)] w fun r w' => r = .returned (.slice none 0 0) ∧ InE w' g 9 ∧ w.grownBy w' (some g) := by
  obtain ⟨gr, o, c, h1, _⟩ := HI.out.ex
  obtain ⟨L, hL⟩ : ∃ L, l.length = L := ⟨_, rfl⟩
  rw [hL] at h1 hl
  have c0 := h1.cell 0
  have l1 : (L : Int) < (n : Int) := by omega
  clear h1
  go_enter Tryd.func97, Tryd.ntmps97
  go_wp2_with fail
  refine (fail_good 9 (by omega) g l w HI).mono ?_
  rintro e w1 ⟨rfl, h2, h3⟩
  have H2 := Lib.hid h2
  have H3 := Lib.hid h3
  clear h2 h3 c0
  go_wp2
  go_ret
  exact ⟨rfl, H2.out, H3.out⟩
/-- An In of any kind: what is left of it, and what is wrong. -/
def InG (w : World) (g : Nat) (l : List Nat) (e : Nat) : Prop := if e = 0 then InAt w g (ints l) else InE w g e ∧ l = []
/-- What is wrong behind n bytes more; what is left then. -/
def aftE (l : List Nat) (e n : Nat) : Nat := if e ≠ 0 then e else if n ≤ l.length then 0 else 9
def aftL (l : List Nat) (n : Nat) : List Nat := if n ≤ l.length then l.drop n else []
theorem next_G (n : Nat) (hn : 0 < n) (g e : Nat) (l : List Nat) (w : World) (HI : Hid (InG w g l e)) :
    Calls Tryd.prog 97 #[.pointer (some ⟨g, 0, none⟩), .int .i64 (n : Int)] w fun r w' => ∃ A k c, r = .returned (.slice A k c) ∧ Src w' A c (if n ≤ l.length then ints (l.take n) else []) ∧ k = (if n ≤ l.length then n else 0) ∧ InG w' g (aftL l n) (aftE l e n) ∧ w.grownBy w' (some g) := by
  have hi := HI.out
  unfold InG at hi
  by_cases he : e = 0
  · rw [if_pos he] at hi
    by_cases hl : n ≤ l.length
    · have e1 : ints l = ints (l.take n) ++ ints (l.drop n) := by rw [ints_append, List.take_append_drop]
      rw [e1] at hi
      refine (next_any g n _ _ w (Lib.hid hi) (Lib.hid (by rw [ints_length, List.length_take]; omega))).mono ?_
      rintro r w' ⟨A, c, rfl, h1, h2, h3⟩
      refine ⟨A, n, c, rfl, by rw [if_pos hl]; exact h1, by rw [if_pos hl], ?_, h3⟩
      have e2 : aftE l e n = 0 := by simp [aftE, he, hl]
      have e3 : aftL l n = l.drop n := by simp [aftL, hl]
      rw [e2, e3]
      unfold InG
      rw [if_pos rfl]
      exact h2
    · refine (next_short n g _ w (Lib.hid hi) (by rw [ints_length]; omega)).mono ?_
      rintro r w' ⟨rfl, h2, h3⟩
      refine ⟨none, 0, 0, rfl, by rw [if_neg hl]; exact ⟨fun _ => rfl, .inl rfl⟩, by rw [if_neg hl], ?_, h3⟩
      have e2 : aftE l e n = 9 := by unfold aftE; rw [if_neg (fun h => h he), if_neg hl]
      have e3 : aftL l n = [] := by unfold aftL; rw [if_neg hl]
      rw [e2, e3]
      unfold InG
      rw [if_neg (by omega)]
      exact ⟨h2, rfl⟩
  · rw [if_neg he] at hi
    obtain ⟨h0, rfl⟩ := hi
    have hl : ¬ n ≤ ([] : List Nat).length := by simp; omega
    refine (next_badE e he (n : Int) (by omega) g w (Lib.hid h0)).mono ?_
    rintro r w' ⟨rfl, h2, h3⟩
    refine ⟨none, 0, 0, rfl, by rw [if_neg hl]; exact ⟨fun _ => rfl, .inl rfl⟩, by rw [if_neg hl], ?_, h3⟩
    have e2 : aftE [] e n = e := by unfold aftE; rw [if_pos he]
    have e3 : aftL [] n = [] := by unfold aftL; rw [if_neg hl]
    rw [e2, e3]
    unfold InG
    rw [if_neg he]
    exact ⟨h2, rfl⟩
theorem InG.below {w w' : World} {g e : Nat} {l : List Nat} (h : InG w g l e) (hb : Below w.heap.size w w') : InG w' g l e := by
  unfold InG at h ⊢
  split at h
  · rename_i hc; rw [if_pos hc]; exact h.below hb
  · rename_i hc; rw [if_neg hc]; exact ⟨h.1.below hb, h.2⟩
theorem InG.lt {w : World} {g e : Nat} {l : List Nat} (h : InG w g l e) : g < w.heap.size := by
  unfold InG at h
  split at h
  · exact h.lt
  · exact h.1.lt
theorem InG.far {w w' : World} {g e b : Nat} {l : List Nat} (h : InG w g l e) (hg : w.grownBy w' (some b)) (hb : g < b) : InG w' g l e := by
  unfold InG at h ⊢
  split at h
  · rename_i hc; rw [if_pos hc]; exact h.far hg hb
  · rename_i hc; rw [if_neg hc]; exact ⟨h.1.far hg (by omega), h.2⟩
theorem numB_nat : ∀ (l : List Nat) (a : Nat), numB (ints l) (a : Int) = ((l.foldl (fun n b => n * 256 + b) a : Nat) : Int)
  | [], a => rfl
  | b :: r, a => by
    have h := numB_nat r (a * 256 + b)
    have e : ((a * 256 + b : Nat) : Int) = (a : Int) * 256 + (b : Int) := by omega
    rw [e] at h
    exact h
/-- The number that the next n bytes are; 0, if they aren't there. -/
def numG (l : List Nat) (n : Nat) : Nat := if n ≤ l.length then (l.take n).foldl (fun n b => n * 256 + b) 0 else 0
theorem fold_lt : ∀ (l : List Nat) (a : Nat), (∀ x ∈ l, x < 256) → l.foldl (fun n b => n * 256 + b) a < (a + 1) * 256 ^ l.length
  | [], a, _ => by simp
  | b :: r, a, h => by
    have h1 := fold_lt r (a * 256 + b) (fun x hx => h x (List.mem_cons_of_mem _ hx))
    have hb := h b List.mem_cons_self
    rw [List.foldl_cons, List.length_cons, Nat.pow_succ']
    refine Nat.lt_of_lt_of_le h1 ?_
    rw [← Nat.mul_assoc]
    exact Nat.mul_le_mul_right _ (by omega)
theorem numG_lt (l : List Nat) (n : Nat) (h : ∀ x ∈ l, x < 256) : numG l n < 256 ^ n := by
  unfold numG
  split
  · have h1 := fold_lt (l.take n) 0 (fun x hx => h x (List.mem_of_mem_take hx))
    rw [List.length_take, Nat.min_eq_left (by assumption)] at h1
    omega
  · exact Nat.pow_pos (by omega)
/-- The next bytes as a number, off any In. -/
theorem nextnum_G (n : Nat) (hn : 0 < n) (h8 : n ≤ 8) (g e : Nat) (l : List Nat) (w : World) (HI : Hid (InG w g l e)) (HL : Hid (∀ x ∈ l, x < 256)) :
    Calls Tryd.prog 97 #[.pointer (some ⟨g, 0, none⟩), .int .i64 (n : Int)] w fun r w1 => ∃ A k c, r = .returned (.slice A k c) ∧ InG w1 g (aftL l n) (aftE l e n) ∧ w.grownBy w1 (some g) ∧ Calls Tryd.prog 101 #[.slice A k c] w1 fun r2 w2 => r2 = .returned (.int .u64 ((numG l n : Nat) : Int)) ∧ w1 = w2 := by
  refine (next_G n hn g e l w HI).mono ?_
  rintro r w1 ⟨A, k, c, rfl, hs, hk, hi, hg⟩
  refine ⟨A, k, c, rfl, hi, hg, ?_⟩
  by_cases hl : n ≤ l.length
  · rw [if_pos hl] at hs hk
    have h := number_any A c k (ints (l.take n)) w1 (Lib.hid hs) (Lib.hid (by rw [ints_length, List.length_take, hk]; omega)) (by omega) (Lib.hid (by
      intro b hb
      obtain ⟨x, hx, rfl⟩ := List.mem_map.1 hb
      have := HL.out x (List.mem_of_mem_take hx)
      constructor
      · exact Int.natCast_nonneg x
      · show (x : Int) < 256; omega))
    have e5 := numB_nat (l.take n) 0
    unfold numG
    rw [if_pos hl, ← e5]
    exact h
  · rw [if_neg hl] at hs hk
    have h := number_any A c k [] w1 (Lib.hid hs) (Lib.hid (by rw [hk]; rfl)) (by omega) (Lib.hid (fun b hb => by cases hb))
    unfold numG
    rw [if_neg hl]
    exact h
theorem four_G (g e : Nat) (l : List Nat) (w : World) (HI : Hid (InG w g l e)) (HL : Hid (∀ x ∈ l, x < 256)) :
    Calls Tryd.prog 83 #[.pointer (some ⟨g, 0, none⟩)] w fun r w' => r = .returned (.int .u32 ((numG l 4 : Nat) : Int)) ∧ InG w' g (aftL l 4) (aftE l e 4) ∧ w.grownBy w' (some g) := by
  have hlt : ((numG l 4 : Nat) : Int) ≤ 4294967295 := by have := numG_lt l 4 HL.out; omega
  go_enter Tryd.func83, Tryd.ntmps83
  go_wp2_with fail
  refine (nextnum_G 4 (by omega) (by omega) g e l w HI HL).mono ?_
  rintro r w1 ⟨A, k, c, rfl, hi, hg, hc⟩
  have HI1 := Lib.hid hi
  have HG1 := Lib.hid hg
  have HC := Lib.hid hc
  clear hi hg hc
  go_wp2_with fail
  refine HC.out.mono ?_
  rintro r2 w2 ⟨rfl, rfl⟩
  go_wp2
  go_ret
  exact ⟨rfl, HI1.out, HG1.out⟩
theorem one_G (g e : Nat) (l : List Nat) (w : World) (HI : Hid (InG w g l e)) (HL : Hid (∀ x ∈ l, x < 256)) :
    Calls Tryd.prog 102 #[.pointer (some ⟨g, 0, none⟩)] w fun r w' => r = .returned (.int .u8 ((numG l 1 : Nat) : Int)) ∧ InG w' g (aftL l 1) (aftE l e 1) ∧ w.grownBy w' (some g) := by
  have hlt : ((numG l 1 : Nat) : Int) ≤ 255 := by have := numG_lt l 1 HL.out; omega
  go_enter Tryd.func102, Tryd.ntmps102
  go_wp2_with fail
  refine (nextnum_G 1 (by omega) (by omega) g e l w HI HL).mono ?_
  rintro r w1 ⟨A, k, c, rfl, hi, hg, hc⟩
  have HI1 := Lib.hid hi
  have HG1 := Lib.hid hg
  have HC := Lib.hid hc
  clear hi hg hc
  go_wp2_with fail
  refine HC.out.mono ?_
  rintro r2 w2 ⟨rfl, rfl⟩
  go_wp2
  go_ret
  exact ⟨rfl, HI1.out, HG1.out⟩
/-- How many things follow, at most M; what is left and what is wrong behind it. -/
def manyV (l : List Nat) (M : Nat) : Nat := if numG l 1 ≤ M then numG l 1 else 0
def manyL (l : List Nat) (M : Nat) : List Nat := if numG l 1 ≤ M then aftL l 1 else []
def manyE (l : List Nat) (e M : Nat) : Nat := if numG l 1 ≤ M then aftE l e 1 else 8
theorem many_G (M : Nat) (hM : M ≤ 255) (g e : Nat) (l : List Nat) (w : World) (HI : Hid (InG w g l e)) (HL : Hid (∀ x ∈ l, x < 256)) :
    Calls Tryd.prog 84 #[.pointer (some ⟨g, 0, none⟩), .int .i64 (M : Int)] w fun r w' => r = .returned (.int .i64 ((manyV l M : Nat) : Int)) ∧ InG w' g (manyL l M) (manyE l e M) ∧ w.grownBy w' (some g) := by
  have hlt : ((numG l 1 : Nat) : Int) ≤ 255 := by have := numG_lt l 1 HL.out; omega
  have hM2 : (M : Int) ≤ 255 := by omega
  go_enter Tryd.func84, Tryd.ntmps84
  go_wp2_with fail
  refine (one_G g e l w HI HL).mono ?_
  rintro r w1 ⟨rfl, hi, hg⟩
  by_cases hn : numG l 1 ≤ M
  · have hn1 : ((numG l 1 : Nat) : Int) ≤ (M : Int) := by omega
    have HE : Hid (InG w1 g (manyL l M) (manyE l e M)) := Lib.hid (by
      unfold manyL manyE
      rw [if_pos hn, if_pos hn]
      exact hi)
    have HV : Hid (manyV l M = numG l 1) := Lib.hid (by unfold manyV; rw [if_pos hn])
    have HG1 := Lib.hid hg
    clear hi hg
    go_wp2
    go_ret
    exact ⟨by rw [HV.out]; rfl, HE.out, HG1.out⟩
  · have hn1 : (M : Int) < ((numG l 1 : Nat) : Int) := by omega
    have hl1 : 1 ≤ l.length := by
      rcases Nat.lt_or_ge l.length 1 with h | h
      · exfalso
        apply hn
        unfold numG
        rw [if_neg (by omega)]
        omega
      · exact h
    have he : e = 0 := by
      rcases Nat.eq_zero_or_pos e with h | h
      · exact h
      · exfalso
        have hi0 := HI.out
        unfold InG at hi0
        rw [if_neg (by omega)] at hi0
        rw [hi0.2] at hl1
        simp at hl1
    have hi2 : InAt w1 g (ints (aftL l 1)) := by
      unfold InG at hi
      have e2 : aftE l e 1 = 0 := by simp [aftE, he, hl1]
      rw [e2, if_pos rfl] at hi
      exact hi
    have HV : Hid (manyV l M = 0) := Lib.hid (by unfold manyV; rw [if_neg hn])
    have HI2 := Lib.hid hi2
    have HG1 := Lib.hid hg
    clear hi hi2 hg
    go_wp2_with fail
    refine (fail_good 8 (by omega) g _ w1 HI2).mono ?_
    rintro r w2 ⟨rfl, h2, h3⟩
    have HE : Hid (InG w2 g (manyL l M) (manyE l e M)) := Lib.hid (by
      unfold manyL manyE
      rw [if_neg hn, if_neg hn]
      unfold InG
      rw [if_neg (by omega)]
      exact ⟨h2, rfl⟩)
    have HG2 : Hid (w.grownBy w2 (some g)) := Lib.hid (HG1.out.trans h3)
    clear h2 h3
    go_wp2
    go_ret
    exact ⟨by rw [HV.out]; rfl, HE.out, HG2.out⟩
theorem bad_G (g e : Nat) (l : List Nat) (w : World) (HI : Hid (InG w g l e)) : Calls Tryd.prog 34 #[.pointer (some ⟨g, 0, none⟩)] w fun r w' => r = .returned (.int .i64 (e : Int)) ∧ w = w' := by
  have hi := HI.out
  unfold InG at hi
  by_cases he : e = 0
  · rw [if_pos he] at hi
    subst he
    exact bad_any g _ w (Lib.hid hi)
  · rw [if_neg he] at hi
    exact bad_badE e g w (Lib.hid hi.1)
theorem left_G (g e : Nat) (l : List Nat) (w : World) (HI : Hid (InG w g l e)) : Calls Tryd.prog 35 #[.pointer (some ⟨g, 0, none⟩)] w fun r w' => r = .returned (.int .i64 (l.length : Int)) ∧ w = w' := by
  have hi := HI.out
  unfold InG at hi
  by_cases he : e = 0
  · rw [if_pos he] at hi
    exact left_any g _ l.length w (Lib.hid hi) (Lib.hid (by rw [ints_length]))
  · rw [if_neg he] at hi
    have h := left_badE e g w (Lib.hid hi.1)
    rw [hi.2]
    exact h
end Go.Proofs.YtkonokjhpddbfaaDoor.Oct
