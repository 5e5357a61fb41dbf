/-
  The law's same (21) of equal lists; how many can be reached.
-/
import Derived.Test.YtnnimjaigciedaaWebNg
namespace Go.Proofs.Ytnnimjaigciedaa
open Go.RowKit
set_option linter.unusedVariables false

theorem ReachL.le {sl : Nat} {es : List Ed} {node amt : Int} {l : List Int} (h : ReachL sl es node amt l) : l.length ≤ sl := by
  unfold ReachL at h
  split at h
  · rename_i hb
    have hb' : checkE sl es = 0 ∧ 0 ≤ node ∧ node < (sl : Int) := of_decide_eq_true hb
    have hg : AllGood sl es := by
      have hc := hb'.1
      unfold checkE at hc
      split at hc
      · cases hc
      · split at hc
        · assumption
        · cases hc
    exact few sl l (h.1.imp (fun {a b} h => by omega)) (fun x hx => rch_range hg hb'.2 ((h.2 x).1 hx))
  · rw [h]; exact Nat.zero_le _

set_option maxRecDepth 100000 in
set_option maxHeartbeats 4000000 in
theorem isame_any (a : Option Addr) (n c : Nat) (a2 : Option Addr) (c2 : Nat) (l : List Int) (w : World) (hl : l.length = n) (hn : n ≤ 1000) (h1 : IRow w a l) (h2 : IRow w a2 l) :
    Calls Try.prog 21 #[.slice a n c, .slice a2 n c2] w fun e w' => e = .returned (.bool true) ∧ Below w.heap.size w w' := by
  have HL := Lib.hid hl
  have H1 := Lib.hid h1
  have H2 := Lib.hid h2
  have hnI : (n : Int) ≤ 1000 := by omega
  clear hl h1 h2
  go_enter Try.func21, Try.ntmps21
  go_wp2_with fail
  go_loopw [5, 13] (fun _ j wd => ∃ k : Nat, k ≤ n ∧ j = .int .i64 k ∧ Hid (Below w.heap.size w wd)) (fun _ j _ => n - (intOf j).toNat)
  case atStart => exact ⟨0, Nat.zero_le _, rfl, Lib.hid (Below.refl _ _)⟩
  case round =>
    obtain ⟨k, hk, rfl, Br⟩ := hrel
    by_cases hlt : k < n
    · have hkI : (k : Int) < (n : Int) := by omega
      have hkl : k < l.length := by rw [HL.out]; exact hlt
      obtain ⟨x, hx⟩ : ∃ x, l.getD k 0 = x := ⟨_, rfl⟩
      rcases H1.out.below Br.out with h | ⟨b1, o1, rfl, hb1, hc1⟩
      · rw [h] at hkl; simp at hkl
      rcases H2.out.below Br.out with h | ⟨b2, o2, rfl, hb2, hc2⟩
      · rw [h] at hkl; simp at hkl
      have e1 : wr.cell? ⟨b1, o1 + k, none⟩ = some (.int .i64 x) := by rw [hc1 k hkl, hx]
      have e2 : wr.cell? ⟨b2, o2 + k, none⟩ = some (.int .i64 x) := by rw [hc2 k hkl, hx]
      clear hc1 hc2 hx hkl
      go_wp2_with fail
      go_quiet (fail)
      have B9 : Hid (Below w.heap.size w (wr.drewN nq)) := Lib.hid (below_drewN Br.out _)
      go_wp2
      go_roundw
      case rel => exact ⟨k + 1, by omega, by go_num, B9⟩
      case measure => simp [intOf]; omega
    · obtain rfl : k = n := by omega
      go_wp2
      go_ret
      exact ⟨rfl, Br.out⟩
end Go.Proofs.Ytnnimjaigciedaa
