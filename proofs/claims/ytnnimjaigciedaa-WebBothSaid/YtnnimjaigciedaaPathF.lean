/-
  slices.Index, slices.Contains of whole numbers.
-/
import Derived.Test.YtnnimjaigciedaaPathE
namespace Go.Proofs.Ytnnimjaigciedaa
open Go.RowKit
set_option linter.unusedVariables false

def IndexPost (l : List Int) (x : Int) (w : World) (e : Ending) (w' : World) : Prop := ∃ r : Int, e = .returned (.int .i64 r) ∧ (0 ≤ r ↔ x ∈ l) ∧ w = w'

set_option maxRecDepth 100000 in
set_option maxHeartbeats 2000000 in
theorem index_any (a : Option Addr) (n c : Nat) (l : List Int) (x : Int) (w : World) (hR : IRow w a l) (hl : l.length = n) (hn : n ≤ 1000) :
    Calls Try.prog 75 #[.slice a n c, .int .i64 x] w (IndexPost l x w) := by
  have HR := Lib.hid hR
  have HL := Lib.hid hl
  clear hR hl
  go_enter Try.func75, Try.ntmps75
  go_wp2
  go_loop [5, 8] (fun _ i => ∃ k : Nat, k ≤ n ∧ i = .int .i64 k ∧ Hid (∀ j, j < k → l.getD j 0 ≠ x)) (fun _ i => n - (intOf i).toNat)
  case atStart => exact ⟨0, Nat.zero_le _, rfl, Lib.hid (fun j hj => by omega)⟩
  case round =>
    obtain ⟨k, hk, rfl, HF⟩ := hrel
    by_cases hlt : k < n
    · have hk' : k < l.length := by rw [HL.out]; exact hlt
      rcases HR.out with h | ⟨b, off, rfl, hb, hc⟩
      · rw [h] at hk'; simp at hk'
      · have e0 := hc k hk'
        have HM := Lib.hid (show l.getD k 0 ∈ l by rw [show l.getD k 0 = l[k] by simp [List.getD, hk']]; exact List.getElem_mem hk')
        obtain ⟨y, hy⟩ : ∃ y, l.getD k 0 = y := ⟨_, rfl⟩
        rw [hy] at e0 HM
        have HY := Lib.hid hy
        clear hc hk' hb hy
        by_cases hxy : x = y
        · have b0 : (x == y) = true := by simpa using hxy
          have HXY := Lib.hid hxy
          clear hxy
          go_wp2
          go_ret
          exact ⟨k, rfl, ⟨fun _ => by rw [HXY.out]; exact HM.out, fun _ => Int.natCast_nonneg _⟩, rfl⟩
        · have b0 : (x == y) = false := by simpa using hxy
          have HXY := Lib.hid hxy
          clear hxy
          go_wp2
          go_round
          case rel => exact ⟨k + 1, by omega, by go_num, Lib.hid (fun j hj => by
            by_cases h : j = k
            · rw [h, HY.out]; exact fun e => HXY.out e.symm
            · exact HF.out j (by omega))⟩
          case measure => simp [intOf] <;> omega
    · have HN : Hid (x ∉ l) := Lib.hid (fun hm => by
        obtain ⟨j, hj, he⟩ := List.mem_iff_getElem.1 hm
        exact HF.out j (by rw [HL.out] at hj; omega) (by rw [← he]; simp [List.getD, hj]))
      go_wp2
      go_ret
      exact ⟨-1, rfl, ⟨fun h => by omega, fun h => absurd h HN.out⟩, rfl⟩

set_option maxRecDepth 100000 in
theorem contains_any (a : Option Addr) (n c : Nat) (l : List Int) (x : Int) (w : World) (hR : IRow w a l) (hl : l.length = n) (hn : n ≤ 1000) :
    Calls Try.prog 48 #[.slice a n c, .int .i64 x] w fun e w' => e = .returned (.bool (decide (x ∈ l))) ∧ w = w' := by
  have HI := Lib.hid (index_any a n c l x w hR hl hn)
  clear hR hl
  go_enter Try.func48, Try.ntmps48
  go_wp2_with fail
  refine HI.out.mono ?_
  rintro e w' ⟨r, rfl, hr, rfl⟩
  by_cases hm : x ∈ l
  · have d0 : decide ((0 : Int) ≤ r) = true := decide_eq_true (hr.2 hm)
    have HE : Hid (decide (x ∈ l) = true) := Lib.hid (decide_eq_true hm)
    clear hr hm
    go_wp2
    go_ret
    exact ⟨by rw [HE.out]; rfl, rfl⟩
  · have d0 : decide ((0 : Int) ≤ r) = false := decide_eq_false (fun h => hm (hr.1 h))
    have HE : Hid (decide (x ∈ l) = false) := Lib.hid (decide_eq_false hm)
    clear hr hm
    go_wp2
    go_ret
    exact ⟨by rw [HE.out]; rfl, rfl⟩
end Go.Proofs.Ytnnimjaigciedaa
