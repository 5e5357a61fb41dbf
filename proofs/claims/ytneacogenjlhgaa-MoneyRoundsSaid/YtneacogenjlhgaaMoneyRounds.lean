/-
  tollhouselaw02.MoneyRounds returns true for every input: a part rounded up is the part rounded down or one more, and more of an amount has no lesser part; nothing that was there is written.
-/
import Derived.Test.YtneacogenjlhgaaRows
import Derived.Test.YtneacogenjlhgaaFee
import Derived.ProofKit
import Derived.OpenShut
import Derived.ShutString
import Derived.ChangeOld
namespace Go.Proofs.Ytneacogenjlhgaa.moneyRounds
open Go.ChangeShapes Go.WideShapes Go.ChangeAt Go.RowKit

theorem word_wf {x : Int} (h : (Lit.int .u64 x).wf = true) : Word x := by
  simp [Lit.wf, IntKind.min, IntKind.max, IntKind.signed, IntKind.bits] at h
  exact ⟨by omega, by omega⟩

/-- The first test's numbers. -/
theorem rounds_cases (a m o : Int) (ha : Word a) (hm : Word m) (ho : Word o) :
    ((partE a m o == 0) = false ∧ (partE a m o != 0) = true ∧ (upE a m o == 0) = false) ∨
    ((partE a m o == 0) = true ∧ (partE a m o != 0) = false ∧ (upE a m o == 0) = false) ∨
    ((partE a m o == 0) = true ∧ (partE a m o != 0) = false ∧ (upE a m o == 0) = true ∧ (upV a m o != partV a m o) = false) ∨
    ((partE a m o == 0) = true ∧ (partE a m o != 0) = false ∧ (upE a m o == 0) = true ∧ (upV a m o != partV a m o) = true ∧ IntKind.u64.wrap (upV a m o - partV a m o) = 1) := by
  have hv := partV_word ha hm ho
  by_cases h0 : partE a m o = 0
  · by_cases h1 : partR a m o = 0
    · right; right; left
      simp [upE, upV, h0, h1]
    · rcases addE_cases (partV a m o) 1 with h2 | h2
      · right; right; right
        have h3 : addV (partV a m o) 1 = partV a m o + 1 := by
          unfold addE at h2
          unfold addV
          split at h2
          · rename_i h; rw [if_pos h]
          · omega
        refine ⟨by simp [h0], by simp [h0], by simp [upE, h0, h1, h2], ?_, ?_⟩
        · simp [upV, h0, h1, h3]; omega
        · simp only [upV, h0, h1, h3]
          simp
          rw [show partV a m o + 1 - partV a m o = 1 by omega]
          rfl
      · right; left
        simp [upE, h0, h1, h2]
  · left
    simp [upE, h0]

/-- More of an amount has no lesser part. -/
theorem more_part (a m o k : Int) (hm : Word m) (ho : Word o) (hk : 0 ≤ k) (h0 : partE a m o = 0) (h1 : partE (a + k) m o = 0) : partV a m o ≤ partV (a + k) m o := by
  unfold partV
  rw [if_pos h0, if_pos h1]
  by_cases hz : o = 0
  · subst hz; simp [partE] at h0
  · have hp : 0 < o := by have := ho.1; omega
    refine Int.ediv_le_ediv hp ?_
    rw [Int.add_mul]
    have := Int.mul_nonneg hk hm.1
    omega

theorem more_cases (a m o k : Int) (hm : Word m) (ho : Word o) (hk : Word k) :
    (addE a k != 0) = true ∨ ((addE a k != 0) = false ∧ (partE (addV a k) m o != 0) = true) ∨
    ((addE a k != 0) = false ∧ (partE (addV a k) m o != 0) = false ∧ (partE a m o = 0 → partV a m o ≤ partV (addV a k) m o)) := by
  by_cases h0 : addE a k = 0
  · right
    by_cases h1 : partE (addV a k) m o = 0
    · right
      refine ⟨by simp [h0], by simp [h1], fun h2 => ?_⟩
      have h3 : addV a k = a + k := by
        unfold addE at h0
        unfold addV
        split at h0
        · rename_i h; rw [if_pos h]
        · omega
      rw [h3] at h1 ⊢
      exact more_part a m o k hm ho hk.1 h2 h1
    · left
      exact ⟨by simp [h0], by simpa using h1⟩
  · left
    simpa using h0

set_option maxHeartbeats 4000000 in
theorem walk (a m o k : Int) (w : World) (wa : (Lit.int .u64 a).wf = true) (wm : (Lit.int .u64 m).wf = true) (wo : (Lit.int .u64 o).wf = true) (wk : (Lit.int .u64 k).wf = true) :
    Calls Try.prog 12 #[.int .u64 a, .int .u64 m, .int .u64 o, .int .u64 k] w fun e w' => e = .returned (.bool true) ∧ Below w.heap.size w w' := by
  have ha := word_wf wa
  have hm := word_wf wm
  have ho := word_wf wo
  have hk := word_wf wk
  clear wa wm wo wk
  have hb := addV_word ha hk
  rcases rounds_cases a m o ha hm ho with ⟨g1, g2, g3⟩ | ⟨g1, g2, g3⟩ | ⟨g1, g2, g3, g4⟩ | ⟨g1, g2, g3, g4, g5⟩
  all_goals
    rcases more_cases a m o k hm ho hk with j1 | ⟨j1, j2⟩ | ⟨j1, j2, J3⟩
    all_goals
      try have j3 := J3 (by simpa using g1)
      try clear J3
      go_enter Try.func12, Try.ntmps12
      go_wp2_with (first | (go_at_call 43; refine (part_any _ _ _ _ (by assumption) (by assumption) (by assumption)).mono ?_; rintro e w' ⟨rfl, n, rfl⟩) | (go_at_call 45; refine (up_any _ _ _ _ ha hm ho).mono ?_; rintro e w' ⟨rfl, n, rfl⟩) | (go_at_call 33; refine (add_any _ _ _ ha hk).mono ?_; rintro e w' ⟨rfl, rfl⟩) | (go_at_call 41; refine (awake_any _).mono ?_; rintro e w' ⟨rfl, hB⟩))
      go_ret
      exact ⟨rfl, (below_drewN (Below.refl _ _) _).trans hB⟩

set_option linter.unusedVariables false
theorem own : ownKnob Try.prog.godebug = none := by kernel_rfl
theorem laidOut : laidOutB Try.prog = true := by kernel_rfl

set_option maxRecDepth 100000 in
theorem lifted (os : Os) (started : os.Started) (H : Type) (enc : TypeId × Value → H) :
    ReturnsInHanded {} Try.checked os 12 .any (Rows.moneyRoundsSpec.pre6 enc Try.prog Try.f12 Rows.moneyRoundsRow.domain false) (Rows.moneyRoundsSpec.post enc Try.prog Try.f12 false true false false) := by
  refine returnsInHanded_of_change (C := Try.checked) own started (by kernel_rfl) Try.func12
    (ChangeSpec.witness6 (enc := enc) (C := Try.checked) false ⟨#[], #[.int .u64 0, .int .u64 0, .int .u64 0, .int .u64 0], []⟩ 8 (by kernel_rfl) (by kernel_rfl) (by kernel_rfl) (by kernel_rfl)) ?_
  intro W base args ds gs before hval0 hW hcnd _
  have hval : ∀ (j : Nat) t v, Try.f12.params[j]? = some t → args[j]? = some v → Value.okWide Try.prog W .any base t v := hval0
  have hW' := hW
  obtain ⟨p, q, hA0, hV, rfl, hfz, hnd⟩ := hW
  have hA : DataW.TrodAll enc Try.prog W 0 (fun _ => true) true Try.f12.params.toList args.toList ds p := hA0
  rw [Try.params12] at hA hval
  obtain ⟨v0, vs0, d0, ds0, p0, q0, hargs, rfl, rfl, h0, r0⟩ := trodAll_cons hA
  obtain ⟨v1, vs1, d1, ds1, p1, q1, rfl, rfl, rfl, h1, r1⟩ := trodAll_cons r0
  obtain ⟨v2, vs2, d2, ds2, p2, q2, rfl, rfl, rfl, h2, r2⟩ := trodAll_cons r1
  obtain ⟨v3, vs3, d3, ds3, p3, q3, rfl, rfl, rfl, h3, r3⟩ := trodAll_cons r2
  obtain ⟨rfl, rfl, rfl⟩ := trodAll_nil r3
  obtain rfl : args = #[v0, v1, v2, v3] := by cases args; simp_all
  obtain ⟨rfl, rfl⟩ := trodVars_none hV
  obtain ⟨a0, rfl, rfl, rfl, w0⟩ := open_int Try.underlying28 (hval 0 28 v0 rfl rfl) h0
  obtain ⟨a1, rfl, rfl, rfl, w1⟩ := open_int Try.underlying28 (hval 1 28 v1 rfl rfl) h1
  obtain ⟨a2, rfl, rfl, rfl, w2⟩ := open_int Try.underlying28 (hval 2 28 v2 rfl rfl) h2
  obtain ⟨a3, rfl, rfl, rfl, w3⟩ := open_int Try.underlying28 (hval 3 28 v3 rfl rfl) h3
  clear hA0 hval0
  refine (walk a0 a1 a2 a3 W w0 w1 w2 w3).mono fun e W' ⟨he, bel⟩ => ?_
  subst he
  exact ⟨_, rfl, _, _, _, [], _, [], hW', trodAll_mk1 (shut_bool Try.underlying4 _), (trodAll_cons_mk (shut_int Try.underlying28 w0) (trodAll_cons_mk (shut_int Try.underlying28 w1) (trodAll_cons_mk (shut_int Try.underlying28 w2) (trodAll_cons_mk (shut_int Try.underlying28 w3) trodAll_mk0)))), rfl, bel.frame _, fun h => by cases h⟩

theorem proved : Rows.MoneyRoundsSaid :=
  OpenClaim.holds_of_wide 12 Try.f12 rfl rfl rfl rfl rfl rfl rfl ⟨rfl, rfl, rfl, rfl, rfl⟩ rfl rfl rfl rfl rfl (by kernel_rfl) Try.func12 (by kernel_rfl)
    (of_decide_eq_true (by kernel_rfl)) (by unfold Func.isWrapper; first | (rw [if_pos (by decide +kernel)]; kernel_rfl) | (rw [if_neg (by decide +kernel)]; exact ⟨rfl, rfl⟩))
    (fun os started H enc _ => lifted os started H enc)
#print axioms proved

end Go.Proofs.Ytneacogenjlhgaa.moneyRounds
