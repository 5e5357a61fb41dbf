/-
  The document's Left (36) of any In; a ring's signature laid and taken, in numbers.
-/
import Derived.Test.YtkonokjhpddbfaaDoorRngBI
namespace Go.Proofs.YtkonokjhpddbfaaDoor
open Go.RowKit
set_option linter.unusedVariables false

theorem refleft_R (g : Nat) (A : Option Addr) (c : Nat) (l r : List Nat) (e : Nat) (w : World) (HR : Hid (RefR w g A c l r e)) (hl : l.length ≤ 5000) : Calls Tryd.prog 36 #[.pointer (some ⟨g, 0, none⟩)] w fun x w' => x = .returned (.int .i64 (r.length : Int)) ∧ Below w.heap.size w w' := by
  obtain ⟨a, h1, h2⟩ := HR.out
  have c0 := h1.blk.cell 0
  have c1 := h1.blk.cell 1
  have c2 := h1.blk.cell 2
  have hp := h1.ple
  by_cases he : e = 0
  · have hr : (r.length : Int) = (l.length : Int) - (a : Int) := by rw [h2, if_pos he, List.length_drop]; omega
    have HR1 := Lib.hid hr
    have hei : (e : Int) = 0 := by omega
    rw [hei] at c2
    obtain ⟨L, hL⟩ : ∃ L, l.length = L := ⟨_, rfl⟩
    rw [hL] at c0 hp hl
    have HL := Lib.hid hL
    have l1 : (L : Int) ≤ 5000 := by omega
    have a1 : (a : Int) ≤ (L : Int) := by omega
    have hw : IntKind.i64.wrap ((L : Int) - (a : Int)) = (L : Int) - (a : Int) := IntWalk.i64_in _ (by omega)
    clear h1 h2 hr hei hL
    go_enter Tryd.func36, Tryd.ntmps36
    go_wp2_with (go_region)
    go_ret
    exact ⟨by rw [HR1.out, HL.out]; rfl, below_drewN (Below.refl _ _) 1⟩
  · have hei : ¬ ((e : Int) = 0) := by omega
    have hr : r = [] := by rw [h2, if_neg he]
    subst hr
    clear h1 h2
    go_enter Tryd.func36, Tryd.ntmps36
    go_wp2
    go_ret
    exact ⟨rfl, Below.refl _ _⟩
theorem numG_four (key : Nat) (rest : List Nat) (h : key < 4294967296) : Oct.numG (four key ++ rest) 4 = key := by
  unfold Oct.numG
  rw [if_pos (by simp [four])]
  simp only [four, List.cons_append, List.nil_append, List.take_succ_cons, List.take_zero, List.foldl_cons, List.foldl_nil]
  omega
theorem aftL_four (key : Nat) (rest : List Nat) : Oct.aftL (four key ++ rest) 4 = rest := by
  unfold Oct.aftL
  rw [if_pos (by simp [four])]
  rfl
theorem many_one (m : Nat) (rest : List Nat) (h : m ≤ 8) : Oct.manyV (m :: rest) 8 = m ∧ Oct.manyL (m :: rest) 8 = rest ∧ Oct.manyE (m :: rest) 0 8 = 0 := by
  have h1 : Oct.numG (m :: rest) 1 = m := by
    unfold Oct.numG
    rw [if_pos (by simp)]
    simp
  unfold Oct.manyV Oct.manyL Oct.manyE
  rw [h1, if_pos h, if_pos h, if_pos h]
  refine ⟨rfl, ?_, ?_⟩
  · rw [aftL_ok (by simp)]; rfl
  · exact aftE_ok (by simp)
theorem aftE_four (key : Nat) (rest : List Nat) : Oct.aftE (four key ++ rest) 0 4 = 0 := aftE_ok (by simp [four])
/-- What was laid is taken: the parts. -/
theorem laid_parts (S : List Nat) (key : Nat) (q : Nat → List Nat) (m : Nat) (hk : key < 4294967296) (hm : m ≤ 8) :
    Oct.numG (rlayN S key q m) 4 = key ∧ tkM (rlayN S key q m) = m ∧ tkS (rlayN S key q m) = takeN (layN S ++ rows q m) ∧ tkW (rlayN S key q m) = (fun i => tk (layN S ++ rows q m) (32 + i)) := by
  have e : rlayN S key q m = four key ++ (m :: (layN S ++ rows q m)) := by unfold rlayN; simp
  rw [e]
  have h := many_one m (layN S ++ rows q m) hm
  unfold tkM tkS tkW
  rw [aftL_four, h.1, h.2.1]
  exact ⟨numG_four _ _ hk, rfl, rfl, rfl⟩
theorem tk_app (l rest : List Nat) (k : Nat) (h : 32 * (k + 1) ≤ l.length) : tk (l ++ rest) k = tk l k := by
  unfold tk
  rw [if_pos h, if_pos (by rw [List.length_append]; omega), List.drop_append_of_le_length (by omega), List.take_append_of_le_length (by rw [List.length_drop]; omega)]
theorem rows_congr' (f g : Nat → List Nat) : ∀ n, (∀ i, i < n → f i = g i) → rows f n = rows g n
  | 0, _ => rfl
  | n + 1, h => by rw [rows_succ, rows_succ, rows_congr' f g n (fun i hi => h i (by omega)), h n (by omega)]
theorem takeN_app (l rest : List Nat) (h : 1024 ≤ l.length) : takeN (l ++ rest) = takeN l := by
  unfold takeN
  rw [rows_congr' (tf (l ++ rest)) (tf l) 32 (fun i hi => by unfold tf; rw [tk_app _ _ _ (by omega)]), rows_congr' (tg (l ++ rest)) (tg l) 32 (fun i hi => by unfold tg; rw [tk_app _ _ _ (by omega)])]
theorem layN_length (S : List Nat) (hS : S.length = 1024) : (layN S).length = 1024 := by
  unfold layN
  rw [rows_length' (m := 32) 32 (fun a ha => by simp [pcs, hS]; omega)]
theorem tk_way (S : List Nat) (q : Nat → List Nat) (m i : Nat) (hS : S.length = 1024) (hq : ∀ a, (q a).length = 32) (hi : i < m) : tk (layN S ++ rows q m) (32 + i) = q i := by
  have hl := layN_length S hS
  have hr := rows_length hq m
  unfold tk
  rw [if_pos (by rw [List.length_append, hl, hr]; omega), List.drop_append, hl, List.drop_of_length_le (by omega), List.nil_append, show 32 * (32 + i) - 1024 = 32 * i by omega]
  exact rows_piece hq m i hi
theorem laid_ends (S : List Nat) (key : Nat) (q : Nat → List Nat) (m : Nat) (hk : key < 4294967296) (hm : m ≤ 8) (hS : S.length = 1024) (hq : ∀ a, (q a).length = 32) :
    tkE (rlayN S key q m) 0 = 0 ∧ tkL (rlayN S key q m) = [] := by
  have e : rlayN S key q m = four key ++ (m :: (layN S ++ rows q m)) := by unfold rlayN; simp
  have h := many_one m (layN S ++ rows q m) hm
  have hp := laid_parts S key q m hk hm
  have hlen : (layN S ++ rows q m).length = 32 * (32 + m) := by rw [List.length_append, layN_length S hS, rows_length hq]; omega
  unfold tkE tkL
  rw [hp.2.1, e, aftL_four, aftE_four, h.2.1, h.2.2]
  refine ⟨aftE_ok (by omega), ?_⟩
  rw [aftL_ok (by omega), List.drop_of_length_le (by omega)]
end Go.Proofs.YtkonokjhpddbfaaDoor
