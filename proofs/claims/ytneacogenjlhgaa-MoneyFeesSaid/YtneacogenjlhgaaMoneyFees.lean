/-
  tollhouselaw02.MoneyFees returns true for every input: any fee, and any way's amounts, or why there are none, are the document's; nothing that was there is written.
-/
import Derived.Test.YtneacogenjlhgaaRows
import Derived.Test.YtneacogenjlhgaaRefBack
namespace Go.Proofs.Ytneacogenjlhgaa.moneyFees
open Go.ChangeShapes Go.WideShapes Go.ChangeAt Go.RowKit
set_option linter.unusedVariables false

set_option maxRecDepth 100000 in
set_option maxHeartbeats 4000000 in
theorem walk (a : Int) (s : Option Addr) (len cap : Nat) (fs : List (Int × Int)) (w : World) (wa : (Lit.int .u64 a).wf = true) (hF : IsFees w s len cap fs) :
    Calls Try.prog 9 #[.int .u64 a, .slice s len cap] w fun e w' => e = .returned (.bool true) ∧ Below w.heap.size w w' := by
  have ha := word_wf wa
  clear wa
  obtain ⟨rfl, hN⟩ := hF
  have HN := Lib.hid hN
  have HW := Lib.hid hN.2
  clear hN
  by_cases h20 : fs.length ≤ 20
  · go_enter Try.func9, Try.ntmps9
    go_wp2_with fail
    refine (fees_row _ _ fs _ HN.out (by omega)).mono ?_
    rintro e w4 ⟨a4, c4, rfl, hN4, h4⟩
    have HN4 := Lib.hid hN4
    have HB4 := Lib.hid h4
    clear hN4 h4
    go_wp2_with fail
    refine (back_any _ _ _ fs _ ha HN4.out (by omega)).mono ?_
    rintro e w5 ⟨a5, c5, rfl, hN5, h5⟩
    have HB5 := Lib.hid (HB4.out.trans (h5.mono HB4.out.size))
    have HN5 := Lib.hid hN5
    have HNF5 := Lib.hid (HN4.out.below h5)
    clear hN5 h5
    go_wp2_with fail
    refine (rback_any _ _ _ fs _ ha (HN.out.below HB5.out) (by omega)).mono ?_
    rintro e w6 ⟨a6, c6, rfl, hN6, h6⟩
    have HB6 := Lib.hid (HB5.out.trans (h6.mono HB5.out.size))
    have HN6 := Lib.hid hN6
    have HN56 := Lib.hid (HN5.out.below h6)
    have HNF6 := Lib.hid (HNF5.out.below h6)
    clear hN6 h6
    go_wp2_with fail
    refine (same_any _ _ _ _ _ _ HN56.out HN6.out).mono ?_
    rintro e w7 ⟨rfl, n7, rfl⟩
    have HB7 := Lib.hid (below_drewN HB6.out n7)
    have HNF7 := Lib.hid (HNF6.out.below (below_drewN (Below.refl _ _) n7))
    have HS7 := Lib.hid (HN.out.below HB7.out)
    generalize w6.drewN n7 = W at *
    clear HN HN4 HB4 HB5 HN5 HNF5 HB6 HN6 HN56 HNF6
    have b0 : ((backE a fs).1 != (backE a fs).1) = false := by simp
    obtain ⟨nf, hnf⟩ : ∃ n, fs.length = n := ⟨_, rfl⟩
    rw [hnf]
    rw [hnf] at h20
    have HQ := Lib.hid hnf
    clear hnf
    go_wp2_with fail
    go_loopw [45, 10, 12, 13, 14, 15] (fun i _ _ _ _ _ wr => ∃ (j : Nat), j ≤ nf ∧ i = .int .i64 j ∧ Hid (Below W.heap.size W wr)) (fun i _ _ _ _ _ _ => nf - (intOf i).toNat)
    case atStart => exact ⟨0, Nat.zero_le _, rfl, Lib.hid (Below.refl _ _)⟩
    case round =>
      obtain ⟨j, hj, rfl, HR⟩ := hrel
      by_cases hlt : j < nf
      · rcases HNF7.out.1 with h0 | ⟨g, o, rfl, hg, hcf⟩
        · exfalso
          have := HQ.out
          rw [h0] at this
          simp at this
          omega
        · rcases HS7.out.1 with h0 | ⟨g', o', rfl, hg', hcs⟩
          · exfalso
            have := HQ.out
            rw [h0] at this
            simp at this
            omega
          · obtain ⟨f, hf⟩ : ∃ f, fs.getD j (0, 0) = f := ⟨_, rfl⟩
            obtain ⟨c1, c2⟩ := hcf j (by rw [HQ.out]; exact hlt)
            obtain ⟨d1, d2⟩ := hcs j (by rw [HQ.out]; exact hlt)
            obtain ⟨w1, w2⟩ := HNF7.out.word j
            rw [hf] at c1 c2 d1 d2 w1 w2
            obtain ⟨f1, f2⟩ := f
            simp only at c1 c2 d1 d2 w1 w2
            clear hf hcf hcs
            rw [← HR.out.cell (p := ⟨g, o + j * 2, none⟩) hg] at c1
            rw [← HR.out.cell (p := ⟨g, o + j * 2 + 1, none⟩) hg] at c2
            have s1 : g < wr.heap.size := Nat.lt_of_lt_of_le hg HR.out.size
            go_wp2_with fail
            refine (of_any _ _ _ _ w1 w2 ha).mono ?_
            rintro e w8 ⟨rfl, h8⟩
            have HB8 := Lib.hid ((HR.out.alloc HR.out.size (.cells #[.int .u64 f1, .int .u64 f2] 78)).trans (h8.mono (by have := HR.out.size; simp; omega)))
            clear h8 c1 c2
            rw [← HB8.out.cell (p := ⟨g', o' + j * 2, none⟩) hg'] at d1
            rw [← HB8.out.cell (p := ⟨g', o' + j * 2 + 1, none⟩) hg'] at d2
            have s2 : g' < w8.heap.size := Nat.lt_of_lt_of_le hg' HB8.out.size
            go_wp2_with fail
            refine (rof_any _ _ _ _ w1 w2 ha).mono ?_
            rintro e w9 ⟨rfl, h9⟩
            have HB9 := Lib.hid (HB8.out.trans (h9.mono HB8.out.size))
            clear h9 d1 d2
            go_wp2_with fail
            refine (is_any _ _ _).mono ?_
            rintro e w10 ⟨rfl, rfl⟩
            go_wp2_with fail
            go_roundw
            case rel => exact ⟨j + 1, by omega, by go_num, HB9⟩
            case measure => simp [intOf]; omega
      · go_wp2_with fail
        refine (awake_any _).mono ?_
        rintro e w8 ⟨rfl, h8⟩
        have h58 := HR.out.trans (h8.mono HR.out.size)
        have H8 := Lib.hid (HB7.out.trans (h58.mono HB7.out.size))
        clear h8 h58
        go_wp2
        go_ret
        exact ⟨rfl, H8.out⟩
  · have h21 : 20 < fs.length := by omega
    go_enter Try.func9, Try.ntmps9
    go_wp2_with fail
    refine (awake_any _).mono ?_
    rintro e w1 ⟨rfl, h1⟩
    go_wp2
    go_ret
    exact ⟨rfl, h1⟩

set_option linter.unusedVariables false
theorem own : ownKnob Try.prog.godebug = none := by kernel_rfl
theorem laidOut : laidOutB Try.prog = true := by kernel_rfl

set_option maxRecDepth 100000 in
theorem lifted (os : Os) (started : os.Started) (H : Type) (enc : TypeId × Value → H) :
    ReturnsInHanded {} Try.checked os 9 .any (Rows.moneyFeesSpec.pre6 enc Try.prog Try.f9 Rows.moneyFeesRow.domain false) (Rows.moneyFeesSpec.post enc Try.prog Try.f9 false true false false) := by
  refine returnsInHanded_of_change (C := Try.checked) own started (by kernel_rfl) Try.func9
    (ChangeSpec.witness6 (enc := enc) (C := Try.checked) false ⟨#[], #[.int .u64 0, .slice none 0 0], []⟩ 8 (by kernel_rfl) (by kernel_rfl) (by kernel_rfl) (by kernel_rfl)) ?_
  intro W base args ds gs before hval0 hW hcnd _
  have hval : ∀ (j : Nat) t v, Try.f9.params[j]? = some t → args[j]? = some v → Value.okWide Try.prog W .any base t v := hval0
  have hW' := hW
  obtain ⟨p, q, hA0, hV, rfl, hfz, hnd⟩ := hW
  have hA : DataW.TrodAll enc Try.prog W 0 (fun _ => true) true Try.f9.params.toList args.toList ds p := hA0
  rw [Try.params9] at hA hval
  obtain ⟨v0, vs0, d0, ds0, p0, q0, hargs, rfl, rfl, h0, r0⟩ := trodAll_cons hA
  obtain ⟨v1, vs1, d1, ds1, p1, q1, rfl, rfl, rfl, h1, r1⟩ := trodAll_cons r0
  obtain ⟨rfl, rfl, rfl⟩ := trodAll_nil r1
  obtain rfl : args = #[v0, v1] := by cases args; simp_all
  obtain ⟨rfl, rfl⟩ := trodVars_none hV
  obtain ⟨a0, rfl, rfl, rfl, w0⟩ := open_int Try.underlying28 (hval 0 28 v0 rfl rfl) h0
  obtain ⟨a1, len1, cap1, rfl⟩ := okWide_slice Try.underlying69 (hval 1 69 v1 rfl rfl)
  have k1 := h1
  have lt1 : ∀ x ∈ p1, x.block < W.heap.size := by obtain ⟨m, hm⟩ := k1; exact DataW.trod_lt m _ _ _ hm
  obtain ⟨z1, w1⟩ := open69 h1
  clear hA0 hval0
  refine (walk a0 a1 len1 cap1 z1 W w0 w1).mono fun e W' ⟨he, bel⟩ => ?_
  subst he
  exact ⟨_, rfl, _, _, _, [], _, [], hW', trodAll_mk1 (shut_bool Try.underlying4 _), (trodAll_cons_mk (shut_int Try.underlying28 w0) (trodAll_cons_mk (Below.trod laidOut (by kernel_rfl) (of_decide_eq_true (by kernel_rfl)) k1 bel lt1) trodAll_mk0)), rfl, bel.frame _, fun h => by cases h⟩

theorem proved : Rows.MoneyFeesSaid :=
  OpenClaim.holds_of_wide 9 Try.f9 rfl rfl rfl rfl rfl rfl rfl ⟨rfl, rfl, rfl, rfl, rfl⟩ rfl rfl rfl rfl rfl (by kernel_rfl) Try.func9 (by kernel_rfl)
    (of_decide_eq_true (by kernel_rfl)) (by unfold Func.isWrapper; first | (rw [if_pos (by decide +kernel)]; kernel_rfl) | (rw [if_neg (by decide +kernel)]; exact ⟨rfl, rfl⟩))
    (fun os started H enc _ => lifted os started H enc)
#print axioms proved

end Go.Proofs.Ytneacogenjlhgaa.moneyFees
