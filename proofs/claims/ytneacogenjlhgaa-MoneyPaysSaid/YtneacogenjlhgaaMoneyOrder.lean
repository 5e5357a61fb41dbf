/-
  tollhouselaw02.MoneyOrder returns true for every input: who pays more to let more arrive pays no less, and a list of fees asks at each place no less than behind it; nothing that was there is written.
-/
import Derived.Test.YtneacogenjlhgaaRows
import Derived.Test.YtneacogenjlhgaaFeeArg
import Derived.Deep.QuietTactic
import Derived.BigQuiet
namespace Go.Proofs.Ytneacogenjlhgaa.moneyOrder
open Go.ChangeShapes Go.WideShapes Go.ChangeAt Go.RowKit
set_option linter.unusedVariables false

theorem add_ok {a b : Int} (h : addE a b = 0) : addV a b = a + b ∧ a + b < 18446744073709551616 := by
  unfold addE at h
  unfold addV
  split at h
  · rename_i h1; exact ⟨by rw [if_pos h1], h1⟩
  · omega

theorem of_ok {b r x : Int} (h : ofE b r x = 0) : partE x r 1000000 = 0 ∧ ofV b r x = b + partV x r 1000000 := by
  unfold ofE at h
  unfold ofV
  split at h
  · omega
  · rename_i h1
    have h2 : partE x r 1000000 = 0 := by omega
    rw [if_neg h1]
    exact ⟨h2, (add_ok h).1⟩

theorem over_ok {b r x : Int} (h : overE b r x = 0) : ofE b r x = 0 ∧ overV b r x = x + ofV b r x := by
  unfold overE at h
  unfold overV
  split at h
  · omega
  · rename_i h1
    have h2 : ofE b r x = 0 := by omega
    rw [if_neg h1]
    exact ⟨h2, (add_ok h).1⟩

theorem over_ge {b r x : Int} (hb : Word b) (hr : Word r) (hx : Word x) (h : overE b r x = 0) : x ≤ overV b r x := by
  rw [(over_ok h).2]
  have := (ofV_word hb hr hx).1
  omega

theorem part_mono (a m k : Int) (hm : Word m) (hk : 0 ≤ k) (h0 : partE a m 1000000 = 0) (h1 : partE (a + k) m 1000000 = 0) : partV a m 1000000 ≤ partV (a + k) m 1000000 := by
  unfold partV
  rw [if_pos h0, if_pos h1]
  refine Int.ediv_le_ediv (by omega) ?_
  rw [Int.add_mul]
  have := Int.mul_nonneg hk hm.1
  omega

/-- The first test's numbers. -/
theorem first_cases (b r a k : Int) (hb : Word b) (hr : Word r) (ha : Word a) (hk : Word k) :
    (addE a k == 0) = false ∨ ((addE a k == 0) = true ∧ (overE b r a == 0) = false) ∨ ((addE a k == 0) = true ∧ (overE b r a == 0) = true ∧ (overE b r (addV a k) == 0) = false) ∨
    ((addE a k == 0) = true ∧ (overE b r a == 0) = true ∧ (overE b r (addV a k) == 0) = true ∧ overV b r a ≤ overV b r (addV a k) ∧ a ≤ overV b r a) := by
  by_cases h0 : addE a k = 0
  · by_cases h1 : overE b r a = 0
    · by_cases h2 : overE b r (addV a k) = 0
      · right; right; right
        refine ⟨by simp [h0], by simp [h1], by simp [h2], ?_, over_ge hb hr ha h1⟩
        rw [(add_ok h0).1] at h2 ⊢
        obtain ⟨o1, e1⟩ := over_ok h1
        obtain ⟨o2, e2⟩ := over_ok h2
        obtain ⟨p1, f1⟩ := of_ok o1
        obtain ⟨p2, f2⟩ := of_ok o2
        have := part_mono a r k hr hk.1 p1 p2
        have := hk.1
        omega
      · right; right; left
        exact ⟨by simp [h0], by simp [h1], by simpa using h2⟩
    · right; left
      exact ⟨by simp [h0], by simpa using h1⟩
  · left
    simpa using h0

/-- The amounts of a way never rise. -/
theorem back_falls (x : Int) (fs : List (Int × Int)) (hx : Word x) (hf : ∀ f ∈ fs, Word f.1 ∧ Word f.2) : ∀ k, k + 1 < (backE x fs).2.length → (backE x fs).2.getD (k + 1) 0 ≤ (backE x fs).2.getD k 0 := by
  induction fs with
  | nil => intro k hk; simp [backE] at hk
  | cons f r ih =>
    have ih := ih fun g hg => hf g (by simp [hg])
    have hw := (backE_word x r hx fun g hg => hf g (by simp [hg])).1
    rw [backE]
    generalize hb : backE x r = b at *
    obtain ⟨e, l⟩ := b
    simp only at ih hw ⊢
    intro k hk
    split at hk
    · simp at hk
    · split at hk
      · simp at hk
      · rename_i h1 h2
        rw [if_neg h1, if_neg h2]
        cases l with
        | nil => simp at hk
        | cons y q =>
          have hy : Word y := hw y (by simp)
          cases k with
          | zero =>
            have := over_ge (hf f (by simp)).1 (hf f (by simp)).2 hy (by simpa using h2)
            simpa using this
          | succ k =>
            have := ih k (by simpa using hk)
            simpa using this

set_option maxRecDepth 100000 in
set_option maxHeartbeats 4000000 in
theorem walk (b r a k : Int) (s : Option Addr) (len cap : Nat) (fs : List (Int × Int)) (w : World) (wb : (Lit.int .u64 b).wf = true) (wr : (Lit.int .u64 r).wf = true) (wa : (Lit.int .u64 a).wf = true) (wk : (Lit.int .u64 k).wf = true) (hF : IsFees w s len cap fs) :
    Calls Try.prog 13 #[.int .u64 b, .int .u64 r, .int .u64 a, .int .u64 k, .slice s len cap] w fun e w' => e = .returned (.bool true) ∧ Below w.heap.size w w' := by
  have hb := word_wf wb
  have hr := word_wf wr
  have ha := word_wf wa
  have hk := word_wf wk
  clear wb wr wa wk
  obtain ⟨rfl, hN⟩ := hF
  have HN := Lib.hid hN
  have HW := Lib.hid hN.2
  clear hN
  by_cases h200 : fs.length ≤ 200
  · have hab := addV_word ha hk
    have HB0 := Lib.hid (first_cases b r a k hb hr ha hk)
    go_enter Try.func13, Try.ntmps13
    go_wp2_with fail
    refine (add_any _ _ _ ha hk).mono ?_
    rintro e w1 ⟨rfl, rfl⟩
    go_wp2_with fail
    refine (over_any _ _ _ _ hb hr ha).mono ?_
    rintro e w2 ⟨rfl, h2⟩
    have hsz : w.heap.size < w2.heap.size := by have := h2.size; simp at this; omega
    have hc : w2.cell? ⟨w.heap.size, 0, none⟩ = some (.int .u64 b) ∧ w2.cell? ⟨w.heap.size, 1, none⟩ = some (.int .u64 r) := by
      rw [h2.cell (p := ⟨w.heap.size, 0, none⟩) (by simp), h2.cell (p := ⟨w.heap.size, 1, none⟩) (by simp)]
      exact ⟨by simp, by simp⟩
    obtain ⟨hc0, hc1⟩ := hc
    have HB1 : Hid (Below w.heap.size w w2) := Lib.hid (((Below.refl _ _).alloc (Nat.le_refl _) _).trans (h2.mono (by simp)))
    clear h2
    go_wp2_with fail
    refine (over_any _ _ _ _ hb hr hab).mono ?_
    rintro e w3 ⟨rfl, h3⟩
    have HB2 := Lib.hid (HB1.out.trans (h3.mono HB1.out.size))
    clear h3 hc0 hc1 hsz
    rcases HB0.out with g1 | ⟨g1, g2⟩ | ⟨g1, g2, g3⟩ | ⟨g1, g2, g3, g4, g5⟩
    all_goals
      clear HB0
      go_wp2_with fail
      refine (fees_row _ _ fs _ (HN.out.below HB2.out) h200).mono ?_
      rintro e w4 ⟨a4, c4, rfl, hN4, h4⟩
      have HN4 := Lib.hid hN4
      have HB4 := Lib.hid (HB2.out.trans (h4.mono HB2.out.size))
      clear hN4 h4
      go_wp2_with fail
      refine (back_any _ _ _ fs _ ha HN4.out h200).mono ?_
      rintro e w5 ⟨a5, c5, rfl, hN5, h5⟩
      have HB5 := Lib.hid (HB4.out.trans (h5.mono HB4.out.size))
      have HF := Lib.hid (back_falls a fs ha HW.out)
      have HE := Lib.hid (backE_word a fs ha HW.out)
      have HN5 := Lib.hid hN5
      clear hN5 h5
      obtain ⟨E, hE⟩ : ∃ E, (backE a fs).1 = E := ⟨_, rfl⟩
      obtain ⟨ls, hls⟩ : ∃ l, (backE a fs).2 = l := ⟨_, rfl⟩
      rw [hE, hls]
      rw [hls] at HF HN5
      rw [hE, hls] at HE
      clear hE hls
      by_cases e0 : E = 0
      · have hlen : ls.length = fs.length + 1 := HE.out.2.2.1 e0
        have b0 : (E != 0) = false := by simp [e0]
        subst e0
        obtain ⟨nl, hnl⟩ : ∃ n, ls.length = n := ⟨_, rfl⟩
        rw [hnl]
        have HQ : Hid (ls.length = nl ∧ nl = fs.length + 1) := ⟨hnl, by omega⟩
        have hnl2 : nl ≤ 201 := by omega
        have hnl3 : 0 < nl := by omega
        have hq : ((nl : Int) == (fs.length : Int) + 1) = true := by simp; omega
        clear hnl hlen
        rcases HN5.out.1 with h0 | ⟨g, o, rfl, hg, hcell⟩
        · exfalso
          have := HQ.out.1
          rw [h0] at this
          simp at this
          omega
        · have HC := Lib.hid hcell
          clear hcell
          go_wp2_with fail
          go_loopw [75, 20] (fun i _ wr => ∃ (j n : Nat), j ≤ nl ∧ i = .int .i64 j ∧ wr = w5.drewN n) (fun i _ _ => nl - (intOf i).toNat)
          case atStart => exact ⟨0, 0, Nat.zero_le _, rfl, rfl⟩
          case round =>
            obtain ⟨j, n, hj, rfl, rfl⟩ := hrel
            by_cases hlt : j < nl
            · by_cases hj0 : j = 0
              · subst hj0
                go_wp2_with fail
                go_quiet (fail)
                go_wp2_with fail
                go_roundw
                case rel => exact ⟨1, _, by omega, rfl, rfl⟩
                case measure => simp [intOf]; omega
              · obtain ⟨i, rfl⟩ : ∃ i, j = i + 1 := ⟨j - 1, by omega⟩
                have hle := HF.out i (by rw [HQ.out.1]; exact hlt)
                have k1 := HC.out (i + 1) (by rw [HQ.out.1]; exact hlt)
                have k0 := HC.out i (by rw [HQ.out.1]; omega)
                obtain ⟨y1, hy1⟩ : ∃ y, ls.getD (i + 1) 0 = y := ⟨_, rfl⟩
                obtain ⟨y0, hy0⟩ : ∃ y, ls.getD i 0 = y := ⟨_, rfl⟩
                rw [hy1, hy0] at hle
                rw [hy1] at k1
                rw [hy0] at k0
                clear hy1 hy0 hj0
                have hd : decide (y0 < y1) = false := by simp; omega
                go_wp2_with fail
                go_quiet (fail)
                go_wp2_with fail
                go_roundw
                case rel => exact ⟨i + 1 + 1, _, by omega, by go_num, rfl⟩
                case measure => simp [intOf]; omega
            · go_wp2_with fail
              refine (awake_any _).mono ?_
              rintro e w6 ⟨rfl, h6⟩
              go_wp2
              go_ret
              exact ⟨rfl, HB5.out.trans (Below.mono ((below_drewN (Below.refl _ w5) n).trans h6) HB5.out.size)⟩
      · have hnil : ls = [] := HE.out.2.2.2 e0
        subst hnil
        have b0 : (E != 0) = true := by simpa using e0
        clear e0
        go_wp2_with fail
        refine wp_loop_rounds 1 ?_
        rw [rounds_succ]
        go_wp2_with fail
        refine (awake_any _).mono ?_
        rintro e w6 ⟨rfl, h6⟩
        go_wp2
        go_ret
        exact ⟨rfl, HB5.out.trans (h6.mono HB5.out.size)⟩
  · have h201 : 200 < fs.length := by omega
    go_enter Try.func13, Try.ntmps13
    go_wp2_with fail
    refine (awake_any _).mono ?_
    rintro e w1 ⟨rfl, h1⟩
    go_wp2
    go_ret
    exact ⟨rfl, h1⟩

set_option linter.unusedVariables false
theorem own : ownKnob Try.prog.godebug = none := by kernel_rfl
theorem laidOut : laidOutB Try.prog = true := by kernel_rfl

set_option maxRecDepth 100000 in
theorem lifted (os : Os) (started : os.Started) (H : Type) (enc : TypeId × Value → H) :
    ReturnsInHanded {} Try.checked os 13 .any (Rows.moneyOrderSpec.pre6 enc Try.prog Try.f13 Rows.moneyOrderRow.domain false) (Rows.moneyOrderSpec.post enc Try.prog Try.f13 false true false false) := by
  refine returnsInHanded_of_change (C := Try.checked) own started (by kernel_rfl) Try.func13
    (ChangeSpec.witness6 (enc := enc) (C := Try.checked) false ⟨#[], #[.int .u64 0, .int .u64 0, .int .u64 0, .int .u64 0, .slice none 0 0], []⟩ 8 (by kernel_rfl) (by kernel_rfl) (by kernel_rfl) (by kernel_rfl)) ?_
  intro W base args ds gs before hval0 hW hcnd _
  have hval : ∀ (j : Nat) t v, Try.f13.params[j]? = some t → args[j]? = some v → Value.okWide Try.prog W .any base t v := hval0
  have hW' := hW
  obtain ⟨p, q, hA0, hV, rfl, hfz, hnd⟩ := hW
  have hA : DataW.TrodAll enc Try.prog W 0 (fun _ => true) true Try.f13.params.toList args.toList ds p := hA0
  rw [Try.params13] at hA hval
  obtain ⟨v0, vs0, d0, ds0, p0, q0, hargs, rfl, rfl, h0, r0⟩ := trodAll_cons hA
  obtain ⟨v1, vs1, d1, ds1, p1, q1, rfl, rfl, rfl, h1, r1⟩ := trodAll_cons r0
  obtain ⟨v2, vs2, d2, ds2, p2, q2, rfl, rfl, rfl, h2, r2⟩ := trodAll_cons r1
  obtain ⟨v3, vs3, d3, ds3, p3, q3, rfl, rfl, rfl, h3, r3⟩ := trodAll_cons r2
  obtain ⟨v4, vs4, d4, ds4, p4, q4, rfl, rfl, rfl, h4, r4⟩ := trodAll_cons r3
  obtain ⟨rfl, rfl, rfl⟩ := trodAll_nil r4
  obtain rfl : args = #[v0, v1, v2, v3, v4] := by cases args; simp_all
  obtain ⟨rfl, rfl⟩ := trodVars_none hV
  obtain ⟨a0, rfl, rfl, rfl, w0⟩ := open_int Try.underlying28 (hval 0 28 v0 rfl rfl) h0
  obtain ⟨a1, rfl, rfl, rfl, w1⟩ := open_int Try.underlying28 (hval 1 28 v1 rfl rfl) h1
  obtain ⟨a2, rfl, rfl, rfl, w2⟩ := open_int Try.underlying28 (hval 2 28 v2 rfl rfl) h2
  obtain ⟨a3, rfl, rfl, rfl, w3⟩ := open_int Try.underlying28 (hval 3 28 v3 rfl rfl) h3
  obtain ⟨a4, len4, cap4, rfl⟩ := okWide_slice Try.underlying69 (hval 4 69 v4 rfl rfl)
  have k4 := h4
  have lt4 : ∀ x ∈ p4, x.block < W.heap.size := by obtain ⟨m, hm⟩ := k4; exact DataW.trod_lt m _ _ _ hm
  obtain ⟨z4, w4⟩ := open69 h4
  clear hA0 hval0
  refine (walk a0 a1 a2 a3 a4 len4 cap4 z4 W w0 w1 w2 w3 w4).mono fun e W' ⟨he, bel⟩ => ?_
  subst he
  exact ⟨_, rfl, _, _, _, [], _, [], hW', trodAll_mk1 (shut_bool Try.underlying4 _), (trodAll_cons_mk (shut_int Try.underlying28 w0) (trodAll_cons_mk (shut_int Try.underlying28 w1) (trodAll_cons_mk (shut_int Try.underlying28 w2) (trodAll_cons_mk (shut_int Try.underlying28 w3) (trodAll_cons_mk (Below.trod laidOut (by kernel_rfl) (of_decide_eq_true (by kernel_rfl)) k4 bel lt4) trodAll_mk0))))), rfl, bel.frame _, fun h => by cases h⟩

theorem proved : Rows.MoneyOrderSaid :=
  OpenClaim.holds_of_wide 13 Try.f13 rfl rfl rfl rfl rfl rfl rfl ⟨rfl, rfl, rfl, rfl, rfl⟩ rfl rfl rfl rfl rfl (by kernel_rfl) Try.func13 (by kernel_rfl)
    (of_decide_eq_true (by kernel_rfl)) (by unfold Func.isWrapper; first | (rw [if_pos (by decide +kernel)]; kernel_rfl) | (rw [if_neg (by decide +kernel)]; exact ⟨rfl, rfl⟩))
    (fun os started H enc _ => lifted os started H enc)
#print axioms proved

end Go.Proofs.Ytneacogenjlhgaa.moneyOrder
