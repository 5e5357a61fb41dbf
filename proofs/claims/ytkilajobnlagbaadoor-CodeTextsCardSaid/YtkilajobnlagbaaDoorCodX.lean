/-
  The document's More 28, Cost 25, Takes 26, one 47, Order 24.
-/
import Derived.Test.YtkilajobnlagbaaDoorCodF
import Derived.Test.YtkilajobnlagbaaDoorMny
namespace Go.Proofs.YtkilajobnlagbaaDoor
open Go.RowKit
set_option linter.unusedVariables false

theorem more_0 (w : World) : Calls Tryd.prog 28 #[.int .i64 0] w fun e w' => e = .returned (.int .i64 0) ∧ w = w' := by
  go_enter Tryd.func28, Tryd.ntmps28
  go_wp2
  go_ret
  exact ⟨rfl, rfl⟩
theorem more_1 (w : World) : Calls Tryd.prog 28 #[.int .i64 1] w fun e w' => e = .returned (.int .i64 8) ∧ w = w' := by
  go_enter Tryd.func28, Tryd.ntmps28
  go_wp2
  go_ret
  exact ⟨rfl, rfl⟩
theorem more_2 (w : World) : Calls Tryd.prog 28 #[.int .i64 2] w fun e w' => e = .returned (.int .i64 1) ∧ w = w' := by
  go_enter Tryd.func28, Tryd.ntmps28
  go_wp2
  go_ret
  exact ⟨rfl, rfl⟩
theorem more_3 (w : World) : Calls Tryd.prog 28 #[.int .i64 3] w fun e w' => e = .returned (.int .i64 0) ∧ w = w' := by
  go_enter Tryd.func28, Tryd.ntmps28
  go_wp2
  go_ret
  exact ⟨rfl, rfl⟩
theorem more_4 (w : World) : Calls Tryd.prog 28 #[.int .i64 4] w fun e w' => e = .returned (.int .i64 0) ∧ w = w' := by
  go_enter Tryd.func28, Tryd.ntmps28
  go_wp2
  go_ret
  exact ⟨rfl, rfl⟩
theorem more_5 (w : World) : Calls Tryd.prog 28 #[.int .i64 5] w fun e w' => e = .returned (.int .i64 0) ∧ w = w' := by
  go_enter Tryd.func28, Tryd.ntmps28
  go_wp2
  go_ret
  exact ⟨rfl, rfl⟩
theorem more_6 (w : World) : Calls Tryd.prog 28 #[.int .i64 6] w fun e w' => e = .returned (.int .i64 0) ∧ w = w' := by
  go_enter Tryd.func28, Tryd.ntmps28
  go_wp2
  go_ret
  exact ⟨rfl, rfl⟩
theorem more_7 (w : World) : Calls Tryd.prog 28 #[.int .i64 7] w fun e w' => e = .returned (.int .i64 0) ∧ w = w' := by
  go_enter Tryd.func28, Tryd.ntmps28
  go_wp2
  go_ret
  exact ⟨rfl, rfl⟩
theorem more_8 (w : World) : Calls Tryd.prog 28 #[.int .i64 8] w fun e w' => e = .returned (.int .i64 0) ∧ w = w' := by
  go_enter Tryd.func28, Tryd.ntmps28
  go_wp2
  go_ret
  exact ⟨rfl, rfl⟩
theorem more_9 (w : World) : Calls Tryd.prog 28 #[.int .i64 9] w fun e w' => e = .returned (.int .i64 0) ∧ w = w' := by
  go_enter Tryd.func28, Tryd.ntmps28
  go_wp2
  go_ret
  exact ⟨rfl, rfl⟩
theorem more_10 (w : World) : Calls Tryd.prog 28 #[.int .i64 10] w fun e w' => e = .returned (.int .i64 0) ∧ w = w' := by
  go_enter Tryd.func28, Tryd.ntmps28
  go_wp2
  go_ret
  exact ⟨rfl, rfl⟩
theorem more_11 (w : World) : Calls Tryd.prog 28 #[.int .i64 11] w fun e w' => e = .returned (.int .i64 2) ∧ w = w' := by
  go_enter Tryd.func28, Tryd.ntmps28
  go_wp2
  go_ret
  exact ⟨rfl, rfl⟩
theorem more_12 (w : World) : Calls Tryd.prog 28 #[.int .i64 12] w fun e w' => e = .returned (.int .i64 2) ∧ w = w' := by
  go_enter Tryd.func28, Tryd.ntmps28
  go_wp2
  go_ret
  exact ⟨rfl, rfl⟩
theorem more_13 (w : World) : Calls Tryd.prog 28 #[.int .i64 13] w fun e w' => e = .returned (.int .i64 0) ∧ w = w' := by
  go_enter Tryd.func28, Tryd.ntmps28
  go_wp2
  go_ret
  exact ⟨rfl, rfl⟩
theorem more_14 (w : World) : Calls Tryd.prog 28 #[.int .i64 14] w fun e w' => e = .returned (.int .i64 0) ∧ w = w' := by
  go_enter Tryd.func28, Tryd.ntmps28
  go_wp2
  go_ret
  exact ⟨rfl, rfl⟩
theorem more_15 (w : World) : Calls Tryd.prog 28 #[.int .i64 15] w fun e w' => e = .returned (.int .i64 0) ∧ w = w' := by
  go_enter Tryd.func28, Tryd.ntmps28
  go_wp2
  go_ret
  exact ⟨rfl, rfl⟩
theorem more_16 (w : World) : Calls Tryd.prog 28 #[.int .i64 16] w fun e w' => e = .returned (.int .i64 1) ∧ w = w' := by
  go_enter Tryd.func28, Tryd.ntmps28
  go_wp2
  go_ret
  exact ⟨rfl, rfl⟩
theorem more_17 (w : World) : Calls Tryd.prog 28 #[.int .i64 17] w fun e w' => e = .returned (.int .i64 0) ∧ w = w' := by
  go_enter Tryd.func28, Tryd.ntmps28
  go_wp2
  go_ret
  exact ⟨rfl, rfl⟩
theorem more_any (op : Nat) (hop : op < 18) (w : World) : Calls Tryd.prog 28 #[.int .i64 (op : Int)] w fun e w' => e = .returned (.int .i64 (fol op : Int)) ∧ w = w' := by
  match op, hop with
  | 0, _ => exact more_0 w
  | 1, _ => exact more_1 w
  | 2, _ => exact more_2 w
  | 3, _ => exact more_3 w
  | 4, _ => exact more_4 w
  | 5, _ => exact more_5 w
  | 6, _ => exact more_6 w
  | 7, _ => exact more_7 w
  | 8, _ => exact more_8 w
  | 9, _ => exact more_9 w
  | 10, _ => exact more_10 w
  | 11, _ => exact more_11 w
  | 12, _ => exact more_12 w
  | 13, _ => exact more_13 w
  | 14, _ => exact more_14 w
  | 15, _ => exact more_15 w
  | 16, _ => exact more_16 w
  | 17, _ => exact more_17 w
  | n + 18, h => omega
/-- The number that follows, byte by byte. -/
theorem numB_snoc (l : List Int) (x : Int) : ∀ n : Int, Oct.numB (l ++ [x]) n = Oct.numB l n * 256 + x := by
  induction l with
  | nil => intro n; simp [Oct.numB]
  | cons b r ih => intro n; simp [Oct.numB]; exact ih _
/-- So much of it is read. -/
def numTo (p : List Int) (at_ i : Nat) : Int := Oct.numB ((p.drop (at_ + 1)).take i) 0
theorem numTo_zero (p : List Int) (at_ : Nat) : numTo p at_ 0 = 0 := by simp [numTo, Oct.numB]
theorem numTo_succ (p : List Int) (at_ i : Nat) (h : at_ + 1 + i < p.length) : numTo p at_ (i + 1) = numTo p at_ i * 256 + p.getD (at_ + 1 + i) 0 := by
  unfold numTo
  have hd : i < (p.drop (at_ + 1)).length := by simp; omega
  rw [List.take_succ_eq_append_getElem hd, numB_snoc]
  congr 1
  simp [List.getD, h]
theorem numTo_bound (p : List Int) (at_ : Nat) (hb : ∀ b ∈ p, 0 ≤ b ∧ b < 256) : ∀ i, 0 ≤ numTo p at_ i ∧ numTo p at_ i < 256 ^ i := by
  intro i
  obtain ⟨h1, h2⟩ := numB_lt ((p.drop (at_ + 1)).take i) (fun b hb' => hb b (List.mem_of_mem_drop (List.mem_of_mem_take hb'))) 0 (by omega)
  refine ⟨h1, Int.lt_of_lt_of_le h2 ?_⟩
  rw [show (0 : Int) + 1 = 1 by omega, Int.one_mul]
  have hl : ((p.drop (at_ + 1)).take i).length ≤ i := by simp; omega
  have := Nat.pow_le_pow_right (show 0 < 256 by omega) hl
  calc (256 : Int) ^ ((p.drop (at_ + 1)).take i).length = ((256 ^ ((p.drop (at_ + 1)).take i).length : Nat) : Int) := by rw [Int.natCast_pow]; rfl
    _ ≤ ((256 ^ i : Nat) : Int) := Int.ofNat_le.2 this
    _ = 256 ^ i := by rw [Int.natCast_pow]; rfl
/-- What Order answers. -/
def ordR (p : List Int) (at_ : Nat) : Value := if ordE p at_ = 0 then .tuple #[.int .i64 (opAt p at_ : Int), .int .u64 (numAt p at_), .int .i64 0] else .tuple #[.int .i64 0, .int .u64 0, .int .i64 (ordE p at_)]

set_option maxRecDepth 100000 in
set_option maxHeartbeats 4000000 in
theorem rorder_any (A : Option Addr) (n c at_ : Nat) (p : List Int) (w : World) (HP : Hid (Pg w A n c p)) (ha : at_ ≤ 1000000000) :
    Calls Tryd.prog 24 #[.slice A n c, .int .i64 (at_ : Int)] w fun e w' => e = .returned (ordR p at_) ∧ w' = w := by
  have hl := HP.out.len
  have a0 : (0 : Int) ≤ (at_ : Int) := Int.natCast_nonneg _
  have a2 : (at_ : Int) ≤ 1000000000 := by omega
  by_cases h1 : n ≤ at_
  · have he : ordE p at_ = 9 := by unfold ordE; rw [if_pos (by omega)]
    have hr : ordR p at_ = .tuple #[.int .i64 0, .int .u64 0, .int .i64 9] := by unfold ordR; rw [he, if_neg (by decide)]
    rw [hr]
    have d1 : (n : Int) ≤ (at_ : Int) := by omega
    clear he hr h1 hl ha
    go_enter Tryd.func24, Tryd.ntmps24
    go_wp2
    go_ret3
    exact ⟨rfl, rfl⟩
  · have d1 : ¬ ((n : Int) ≤ (at_ : Int)) := by omega
    have d1' : (at_ : Int) < (n : Int) := by omega
    have hat : at_ < p.length := by omega
    obtain ⟨g, o, rfl, hg, hsrc⟩ : ∃ g o, A = some ⟨g, o, none⟩ ∧ g < w.heap.size ∧ ∀ i, i < p.length → w.cell? ⟨g, o + i, none⟩ = some (.int .u8 (p.getD i 0)) := by
      rcases HP.out.src.2 with h | ⟨g, o, h, h2, h3⟩
      · rw [h] at hat; simp at hat
      · exact ⟨g, o, h, h2, h3⟩
    have hcell := hsrc at_ hat
    have hb := HP.out.bytes (p.getD at_ 0) (by simp [List.getD, hat])
    obtain ⟨op, hop⟩ : ∃ op, opAt p at_ = op := ⟨_, rfl⟩
    have hopI : p.getD at_ 0 = (op : Int) := by rw [← hop]; unfold opAt; omega
    rw [hopI] at hcell
    have op0 : (0 : Int) ≤ (op : Int) := Int.natCast_nonneg _
    have op2 : (op : Int) < 256 := by omega
    by_cases h2 : 18 ≤ op
    · have he : ordE p at_ = 33 := by unfold ordE; rw [if_neg (by omega), if_pos (by rw [hop]; exact h2)]
      have hr : ordR p at_ = .tuple #[.int .i64 0, .int .u64 0, .int .i64 33] := by unfold ordR; rw [he, if_neg (by decide)]
      rw [hr]
      have d2 : (17 : Int) < (op : Int) := by omega
      clear he hr h1 h2 hl ha hsrc hat hop hopI hb hg
      go_enter Tryd.func24, Tryd.ntmps24
      go_wp2
      go_ret3
      exact ⟨rfl, rfl⟩
    · have d2 : ¬ ((17 : Int) < (op : Int)) := by omega
      have hop18 : op < 18 := by omega
      have hF8 := fol_le op
      have HM := Lib.hid (fun w => more_any op hop18 w)
      obtain ⟨F, hF⟩ : ∃ F, fol op = F := ⟨_, rfl⟩
      rw [hF] at HM hF8
      have F0 : (0 : Int) ≤ (F : Int) := Int.natCast_nonneg _
      have F8 : (F : Int) ≤ 8 := by omega
      have n9 : (n : Int) ≤ 9223372036854775807 := by have := HP.out.le; have := HP.out.cap; omega
      by_cases h3 : n < at_ + 1 + F
      · have he : ordE p at_ = 9 := by unfold ordE; rw [if_neg (by omega), if_neg (by rw [hop]; omega), hop, hF, if_pos (by omega)]
        have hr : ordR p at_ = .tuple #[.int .i64 0, .int .u64 0, .int .i64 9] := by unfold ordR; rw [he, if_neg (by decide)]
        rw [hr]
        have d3 : (n : Int) < (at_ : Int) + 1 + (F : Int) := by omega
        clear he hr h1 h2 h3 hl ha hsrc hat hop hopI hb hg hF
        go_enter Tryd.func24, Tryd.ntmps24
        go_wp2_with fail
        refine (HM.out _).mono ?_
        rintro e w1 ⟨rfl, rfl⟩
        go_wp2
        go_ret3
        exact ⟨rfl, rfl⟩
      · have he : ordE p at_ = 0 := by unfold ordE; rw [if_neg (by omega), if_neg (by rw [hop]; omega), hop, hF, if_neg (by omega)]
        have hr : ordR p at_ = .tuple #[.int .i64 (op : Int), .int .u64 (numTo p at_ F), .int .i64 0] := by
          unfold ordR
          rw [he, if_pos rfl, hop]
          unfold numAt numTo
          rw [hop, hF]
        rw [hr]
        have d3 : ¬ ((n : Int) < (at_ : Int) + 1 + (F : Int)) := by omega
        have HSRC : Hid (∀ i, i < p.length → w.cell? ⟨g, o + i, none⟩ = some (.int .u8 (p.getD i 0))) := Lib.hid hsrc
        have HNB := Lib.hid (numTo_bound p at_ HP.out.bytes)
        have HBY := Lib.hid HP.out.bytes
        have HLE : Hid (at_ + 1 + F ≤ p.length) := Lib.hid (by omega)
        have HPN := Lib.hid hl
        clear he hr h1 h2 h3 hl ha hsrc hat hop hopI hb hF
        go_enter Tryd.func24, Tryd.ntmps24
        go_wp2_with fail
        refine (HM.out _).mono ?_
        rintro e w1 ⟨rfl, rfl⟩
        go_wp2_with fail
        go_loopw [8, 9] (fun v t wr => wr = w ∧ ∃ i : Nat, t = .int .i64 i ∧ i ≤ F ∧ v = .int .u64 (numTo p at_ i)) (fun _ t _ => F - (intOf t).toNat)
        case atStart => exact ⟨rfl, 0, rfl, Nat.zero_le _, by rw [numTo_zero]⟩
        case round =>
          obtain ⟨rfl, i, rfl, hi, rfl⟩ := hrel
          have i0 : (0 : Int) ≤ (i : Int) := Int.natCast_nonneg _
          have i8 : (i : Int) ≤ 8 := by omega
          obtain ⟨N, hN⟩ : ∃ N, numTo p at_ i = N := ⟨_, rfl⟩
          obtain ⟨hn0, hn1⟩ := HNB.out i
          rw [hN] at hn0 hn1
          by_cases hlt : i < F
          · have hc := HSRC.out (at_ + 1 + i) (by have := HLE.out; omega)
            have hs := numTo_succ p at_ i (by have := HLE.out; omega)
            have hx := HBY.out (p.getD (at_ + 1 + i) 0) (by have := HLE.out; simp [List.getD, show at_ + 1 + i < p.length by omega])
            obtain ⟨x, hxe⟩ : ∃ x, p.getD (at_ + 1 + i) 0 = x := ⟨_, rfl⟩
            rw [hxe] at hc hs hx
            rw [hN] at hs
            rw [hN]
            have hNs : N < 72057594037927936 := by
              have h7 : (256 : Int) ^ i ≤ 256 ^ 7 := by
                have := Nat.pow_le_pow_right (show 0 < 256 by omega) (show i ≤ 7 by omega)
                calc (256 : Int) ^ i = ((256 ^ i : Nat) : Int) := by rw [Int.natCast_pow]; rfl
                  _ ≤ ((256 ^ 7 : Nat) : Int) := Int.ofNat_le.2 this
                  _ = 256 ^ 7 := by rw [Int.natCast_pow]; rfl
              rw [show (256 : Int) ^ 7 = 72057594037927936 by decide] at h7
              omega
            have in1 : (i : Int) < (F : Int) := by omega
            have j0 : (0 : Int) ≤ (at_ : Int) + 1 + (i : Int) := by omega
            have j1 : (at_ : Int) + 1 + (i : Int) < (n : Int) := by have := HLE.out; have := HPN.out; omega
            have hI : ((at_ : Int) + 1 + (i : Int)).toNat = at_ + 1 + i := by omega
            have hs2 : N * 256 + x = numTo p at_ (i + 1) := hs.symm
            have x0 := hx.1
            have x1 := hx.2
            clear hN hn1 hs hxe hx
            go_wp2_with fail
            refine (HM.out _).mono ?_
            rintro e w2 ⟨rfl, rfl⟩
            go_wp2_with fail
            exact ⟨⟨trivial, i + 1, rfl, by omega, rfl⟩, by show F - (i + 1) < F - i; omega⟩
          · have in1 : ¬ ((i : Int) < (F : Int)) := by omega
            have hiF : i = F := by omega
            subst hiF
            clear hn0 hn1
            go_wp2_with fail
            refine (HM.out _).mono ?_
            rintro e w2 ⟨rfl, rfl⟩
            go_wp2
            go_ret3
            exact ⟨by rw [hN]; rfl, rfl⟩
end Go.Proofs.YtkilajobnlagbaaDoor
