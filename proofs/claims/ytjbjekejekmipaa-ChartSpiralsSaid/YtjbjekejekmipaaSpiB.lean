/-
  The document's Spiral.
-/
import Derived.Test.YtjbjekejekmipaaChF
namespace Go.Proofs.Ytjbjekejekmipaa
open Go.RowKit
set_option linter.unusedVariables false

theorem result23 {fn : Func} {p : Tmp} (h : fn.results = #[.cell p 23]) (tmps : Array Value) (w : World) (g t : Nat) (x y : Int) (hp : tmps.getD p undef = .pointer (some ⟨g, 0, none⟩)) (hP : Pt w g t x y) :
    (results fn tmps).run Try.prog w = .ok (.agg #[.int .i64 x, .int .i64 y]) w := by
  have hp2 : tmps[p]?.getD undef = .pointer (some ⟨g, 0, none⟩) := by simpa using hp
  simp only [results, h]
  simp [hp2, asAddr, load23 w g t x y hP]

/-- Within a leg, perhaps at its end. -/
def spiJ (left c i : Nat) (x y : Int) : Int × Int := if i = c / 2 + 1 then spi left (c + 1) 0 x y else spi left c i x y

theorem spiJ_start (left c : Nat) (x y : Int) : spiJ left c 0 x y = spi left c 0 x y := by
  unfold spiJ
  rw [if_neg (by omega)]
theorem spiJ_step (left c i : Nat) (x y : Int) (h : i < c / 2 + 1) : spiJ (left + 1) c i x y = spiJ left c (i + 1) (x + dirX c) (y + dirY c) := by
  unfold spiJ
  rw [if_neg (by omega), spi]
theorem spiJ_end (left c i : Nat) (x y : Int) (h : i = c / 2 + 1 ∨ left = 0) : spiJ left c i x y = spi left (c + 1) 0 x y := by
  unfold spiJ
  split
  · rfl
  · rename_i hn
    rcases h with h | h
    · exact absurd h hn
    · subst h; rfl

theorem tmod4_nat (c : Nat) : (c : Int).tmod 4 = ((c % 4 : Nat) : Int) := by
  rw [Int.tmod_eq_emod_of_nonneg (by omega)]
  omega

theorem Pt.set0 {w : World} {g : Nat} {t : TypeId} {x y : Int} (h : Pt w g t x y) (a : Int) : Pt (w.setCell ⟨g, 0, none⟩ (.int .i64 a)) g t a y := Blk.set_ h 0 (.int .i64 a)
theorem Pt.set1 {w : World} {g : Nat} {t : TypeId} {x y : Int} (h : Pt w g t x y) (a : Int) : Pt (w.setCell ⟨g, 1, none⟩ (.int .i64 a)) g t x a := Blk.set_ h 1 (.int .i64 a)
theorem Pt.far1 {w : World} {g : Nat} {t : TypeId} {x y : Int} (h : Pt w g t x y) {g2 i : Nat} (hn : g ≠ g2) (u : Value) : Pt (w.setCell ⟨g2, i, none⟩ u) g t x y := Blk.far h (p := ⟨g2, i, none⟩) hn u

set_option maxRecDepth 1000000 in
set_option maxHeartbeats 4000000 in
theorem rspiral_any (N : Nat) (hN : N < 10000) (w : World) :
    Calls Try.prog 32 #[.int .i64 N] w fun e w' => e = .returned (.agg #[.int .i64 (spiP N).1, .int .i64 (spiP N).2]) ∧ Below w.heap.size w w' := by
  go_enter Try.func32, Try.ntmps32
  go_wp2
  have P0 : Hid (Pt ((w.alloc (.cells #[.int .i64 0, .int .i64 0] 23)).alloc (.cells #[.int .i64 0, .int .i64 0] 23)) w.heap.size 23 0 0) := Lib.hid ((Pt.mk_ rfl).alloc _)
  have P1 : Hid (Pt ((w.alloc (.cells #[.int .i64 0, .int .i64 0] 23)).alloc (.cells #[.int .i64 0, .int .i64 0] 23)) (w.heap.size + 1) 23 0 0) := Lib.hid (Pt.mk_ (by simp))
  have HW : Hid (Below w.heap.size w ((w.alloc (.cells #[.int .i64 0, .int .i64 0] 23)).alloc (.cells #[.int .i64 0, .int .i64 0] 23))) := Lib.hid (((Below.refl _ _).alloc (Nat.le_refl _) _).alloc (by simp) _)
  generalize (w.alloc (.cells #[.int .i64 0, .int .i64 0] 23)).alloc (.cells #[.int .i64 0, .int .i64 0] 23) = V at P0 P1 HW ⊢
  go_loopw [0, 4, 5, 6, 28, 34, 40] (fun n c _ _ _ _ _ wr => ∃ (left leg : Nat) (x y : Int), n = .int .i64 left ∧ c = .int .i64 leg ∧ leg + left ≤ 9999 ∧ (-(9999 - (left : Int)) ≤ x ∧ x ≤ 9999 - (left : Int)) ∧ (-(9999 - (left : Int)) ≤ y ∧ y ≤ 9999 - (left : Int)) ∧ Hid (spi left leg 0 x y = spiP N) ∧ Hid (Pt wr w.heap.size 23 0 0) ∧ Hid (Pt wr (w.heap.size + 1) 23 x y) ∧ Hid (Below w.heap.size w wr)) (fun n _ _ _ _ _ _ _ => (intOf n).toNat)
  case atStart => exact ⟨N, 0, 0, 0, rfl, rfl, by omega, by omega, by omega, Lib.hid rfl, P0, P1, HW⟩
  case round =>
    obtain ⟨left, c, x, y, rfl, rfl, hcl, hx, hy, HS, H0, H1, HB⟩ := hrel
    by_cases hl : left = 0
    · subst hl
      have HE : Hid (spiP N = (x, y)) := Lib.hid (by rw [← HS.out]; rfl)
      have k1 := H1.out.c0
      have k2 := H1.out.c1
      have k3 := H0.out.c0
      have k4 := H0.out.c1
      have k5 := H0.out.f0
      have k6 := H0.out.f1
      go_wp2
      exact bodyPost_ret (result23 Try.results32 _ _ w.heap.size 23 x y rfl (H0.out.set x y)) rfl ⟨by rw [HE.out], (HB.out.setCell (Nat.le_refl _) _).setCell (Nat.le_refl _) _⟩
    · have ht := tdiv2 c
      obtain ⟨q, hq⟩ : ∃ q, c / 2 = q := ⟨_, rfl⟩
      rw [hq] at ht
      have hq2 : q ≤ c := by omega
      have HQ := Lib.hid hq
      clear hq
      have hl0 : (0 : Int) < (left : Int) := by omega
      go_wp2
      go_loopw [0, 6, 28, 34, 40] (fun n i _ _ _ wq => ∃ (l1 i1 : Nat) (x1 y1 : Int), n = .int .i64 l1 ∧ i = .int .i64 i1 ∧ l1 ≤ left ∧ i1 ≤ q + 1 ∧ i1 + l1 = left ∧ (-(9999 - (l1 : Int)) ≤ x1 ∧ x1 ≤ 9999 - (l1 : Int)) ∧ (-(9999 - (l1 : Int)) ≤ y1 ∧ y1 ≤ 9999 - (l1 : Int)) ∧ Hid (spiJ l1 c i1 x1 y1 = spiP N) ∧ Hid (Pt wq w.heap.size 23 0 0) ∧ Hid (Pt wq (w.heap.size + 1) 23 x1 y1) ∧ Hid (Below w.heap.size w wq)) (fun n _ _ _ _ _ => (intOf n).toNat)
      case atStart => exact ⟨left, 0, x, y, rfl, rfl, by omega, by omega, by omega, hx, hy, Lib.hid (by rw [spiJ_start]; exact HS.out), H0, H1, HB⟩
      case round =>
        obtain ⟨l1, i, x1, y1, rfl, rfl, hl1, hi, hil, hx1, hy1, GS, G0, G1, GB⟩ := hrel
        by_cases hin : i < q + 1 ∧ 0 < l1
        · obtain ⟨l2, rfl⟩ : ∃ l2, l1 = l2 + 1 := ⟨l1 - 1, by omega⟩
          have hin1 : (i : Int) < (q : Int) + 1 := by omega
          have hin2 : (0 : Int) < ((l2 + 1 : Nat) : Int) := by omega
          have h4 : c % 4 = 0 ∨ c % 4 = 1 ∨ c % 4 = 2 ∨ c % 4 = 3 := by omega
          rcases h4 with hc4 | hc4 | hc4 | hc4
          · have HDX : Hid (dirX c = 1) := Lib.hid (by simp [dirX, hc4])
            have HDY : Hid (dirY c = 0) := Lib.hid (by simp [dirY, hc4])
            have hr := tmod4_nat c
            rw [hc4] at hr
            clear hc4
            have k1 := G1.out.c0
            have k2 := G1.out.c1
            have k3 := G1.out.f0
            have HN : Hid (spiJ l2 c (i + 1) (x1 + 1) y1 = spiP N) := Lib.hid (by
              have h := GS.out
              rw [spiJ_step l2 c i x1 y1 (by have := HQ.out; omega), HDX.out, HDY.out] at h
              rw [Int.add_zero] at h
              exact h)
            have HP : Hid (∀ z, Pt (wr.setCell ⟨w.heap.size + 1, 0, none⟩ (.int .i64 z)) (w.heap.size + 1) 23 z y1) := Lib.hid fun z => G1.out.set0 z
            have HF : Hid (∀ z, Pt (wr.setCell ⟨w.heap.size + 1, 0, none⟩ (.int .i64 z)) w.heap.size 23 0 0) := Lib.hid fun z => G0.out.far1 (by omega) _
            have HBB : Hid (∀ z, Below w.heap.size w (wr.setCell ⟨w.heap.size + 1, 0, none⟩ (.int .i64 z))) := Lib.hid fun z => GB.out.setCell (by simp) _
            have e1 : ((l2 + 1 : Nat) : Int) - 1 = (l2 : Int) := by omega
            go_wp2
            go_roundw
            case rel => exact ⟨l2, i + 1, x1 + 1, y1, by go_num, by go_num, by omega, by omega, by omega, by omega, by omega, HN, HF.out _, HP.out _, HBB.out _⟩
            case measure => simp [intOf] <;> omega
          · have HDX : Hid (dirX c = 0) := Lib.hid (by simp [dirX, hc4])
            have HDY : Hid (dirY c = 1) := Lib.hid (by simp [dirY, hc4])
            have hr := tmod4_nat c
            rw [hc4] at hr
            clear hc4
            have k1 := G1.out.c0
            have k2 := G1.out.c1
            have k3 := G1.out.f1
            have HN : Hid (spiJ l2 c (i + 1) x1 (y1 + 1) = spiP N) := Lib.hid (by
              have h := GS.out
              rw [spiJ_step l2 c i x1 y1 (by have := HQ.out; omega), HDX.out, HDY.out] at h
              rw [Int.add_zero] at h
              exact h)
            have HP : Hid (∀ z, Pt (wr.setCell ⟨w.heap.size + 1, 1, none⟩ (.int .i64 z)) (w.heap.size + 1) 23 x1 z) := Lib.hid fun z => G1.out.set1 z
            have HF : Hid (∀ z, Pt (wr.setCell ⟨w.heap.size + 1, 1, none⟩ (.int .i64 z)) w.heap.size 23 0 0) := Lib.hid fun z => G0.out.far1 (by omega) _
            have HBB : Hid (∀ z, Below w.heap.size w (wr.setCell ⟨w.heap.size + 1, 1, none⟩ (.int .i64 z))) := Lib.hid fun z => GB.out.setCell (by simp) _
            have e1 : ((l2 + 1 : Nat) : Int) - 1 = (l2 : Int) := by omega
            go_wp2
            go_roundw
            case rel => exact ⟨l2, i + 1, x1, y1 + 1, by go_num, by go_num, by omega, by omega, by omega, by omega, by omega, HN, HF.out _, HP.out _, HBB.out _⟩
            case measure => simp [intOf] <;> omega
          · have HDX : Hid (dirX c = -1) := Lib.hid (by simp [dirX, hc4])
            have HDY : Hid (dirY c = 0) := Lib.hid (by simp [dirY, hc4])
            have hr := tmod4_nat c
            rw [hc4] at hr
            clear hc4
            have k1 := G1.out.c0
            have k2 := G1.out.c1
            have k3 := G1.out.f0
            have HN : Hid (spiJ l2 c (i + 1) (x1 - 1) y1 = spiP N) := Lib.hid (by
              have h := GS.out
              rw [spiJ_step l2 c i x1 y1 (by have := HQ.out; omega), HDX.out, HDY.out] at h
              rw [Int.add_zero] at h
              simpa [Int.sub_eq_add_neg] using h)
            have HP : Hid (∀ z, Pt (wr.setCell ⟨w.heap.size + 1, 0, none⟩ (.int .i64 z)) (w.heap.size + 1) 23 z y1) := Lib.hid fun z => G1.out.set0 z
            have HF : Hid (∀ z, Pt (wr.setCell ⟨w.heap.size + 1, 0, none⟩ (.int .i64 z)) w.heap.size 23 0 0) := Lib.hid fun z => G0.out.far1 (by omega) _
            have HBB : Hid (∀ z, Below w.heap.size w (wr.setCell ⟨w.heap.size + 1, 0, none⟩ (.int .i64 z))) := Lib.hid fun z => GB.out.setCell (by simp) _
            have e1 : ((l2 + 1 : Nat) : Int) - 1 = (l2 : Int) := by omega
            go_wp2
            go_roundw
            case rel => exact ⟨l2, i + 1, x1 - 1, y1, by go_num, by go_num, by omega, by omega, by omega, by omega, by omega, HN, HF.out _, HP.out _, HBB.out _⟩
            case measure => simp [intOf] <;> omega
          · have HDX : Hid (dirX c = 0) := Lib.hid (by simp [dirX, hc4])
            have HDY : Hid (dirY c = -1) := Lib.hid (by simp [dirY, hc4])
            have hr := tmod4_nat c
            rw [hc4] at hr
            clear hc4
            have k1 := G1.out.c0
            have k2 := G1.out.c1
            have k3 := G1.out.f1
            have HN : Hid (spiJ l2 c (i + 1) x1 (y1 - 1) = spiP N) := Lib.hid (by
              have h := GS.out
              rw [spiJ_step l2 c i x1 y1 (by have := HQ.out; omega), HDX.out, HDY.out] at h
              rw [Int.add_zero] at h
              simpa [Int.sub_eq_add_neg] using h)
            have HP : Hid (∀ z, Pt (wr.setCell ⟨w.heap.size + 1, 1, none⟩ (.int .i64 z)) (w.heap.size + 1) 23 x1 z) := Lib.hid fun z => G1.out.set1 z
            have HF : Hid (∀ z, Pt (wr.setCell ⟨w.heap.size + 1, 1, none⟩ (.int .i64 z)) w.heap.size 23 0 0) := Lib.hid fun z => G0.out.far1 (by omega) _
            have HBB : Hid (∀ z, Below w.heap.size w (wr.setCell ⟨w.heap.size + 1, 1, none⟩ (.int .i64 z))) := Lib.hid fun z => GB.out.setCell (by simp) _
            have e1 : ((l2 + 1 : Nat) : Int) - 1 = (l2 : Int) := by omega
            go_wp2
            go_roundw
            case rel => exact ⟨l2, i + 1, x1, y1 - 1, by go_num, by go_num, by omega, by omega, by omega, by omega, by omega, HN, HF.out _, HP.out _, HBB.out _⟩
            case measure => simp [intOf] <;> omega
        · have HN : Hid (spi l1 (c + 1) 0 x1 y1 = spiP N) := Lib.hid (by
            have h := GS.out
            rw [spiJ_end l1 c i x1 y1 (by have := HQ.out; omega)] at h
            exact h)
          by_cases hi2 : i < q + 1
          · obtain rfl : l1 = 0 := by omega
            have hin1 : (i : Int) < (q : Int) + 1 := by omega
            go_wp2
            go_roundw
            case rel => exact ⟨0, c + 1, x1, y1, by go_num, by go_num, by omega, by omega, by omega, HN, G0, G1, GB⟩
            case measure => simp [intOf] <;> omega
          · obtain rfl : i = q + 1 := by omega
            have hin1 : ¬ (((q + 1 : Nat) : Int) < (q : Int) + 1) := by omega
            go_wp2
            go_roundw
            case rel => exact ⟨l1, c + 1, x1, y1, by go_num, by go_num, by omega, by omega, by omega, HN, G0, G1, GB⟩
            case measure => simp [intOf] <;> omega
end Go.Proofs.Ytjbjekejekmipaa
