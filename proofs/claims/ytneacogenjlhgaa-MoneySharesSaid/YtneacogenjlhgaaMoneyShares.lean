/-
  tollhouselaw02.MoneyShares returns true for every input: any amount, shared by any weights, or why it isn't, is the document's; it comes to the amount, and who has no weight has nothing; nothing that was there is written.
-/
import Derived.Test.YtneacogenjlhgaaRows
import Derived.Test.YtneacogenjlhgaaRefShare
namespace Go.Proofs.Ytneacogenjlhgaa.moneyShares
open Go.ChangeShapes Go.WideShapes Go.ChangeAt Go.RowKit
set_option linter.unusedVariables false

/-- What the shares come to. -/
theorem share_end (a : Int) (ws : List Int) (ha : Word a) (hw : ∀ n ∈ ws, Word n) (h : (shareE a ws).1 = 0) :
    (shareE a ws).2.length = ws.length ∧ sumE (shareE a ws).2 = 0 ∧ sumV (shareE a ws).2 = a ∧ ∀ i, ws.getD i 0 = 0 → (shareE a ws).2.getD i 0 = 0 := by
  by_cases h0 : sumE ws = 0
  · by_cases h1 : sumV ws = 0
    · rw [shareE, if_neg (by simp [h0]), if_pos h1] at h
      simp at h
    · have hf := share_facts a ws ha hw h0 h1
      have e : shareE a ws = (0, spr (a - tot (parts a (tot ws) ws)) ws (parts a (tot ws) ws)) := by rw [shareE, if_neg (by simp [h0]), if_neg h1, hf.1]
      rw [e]
      simp only
      have hs := sumGo_tot (spr (a - tot (parts a (tot ws) ws)) ws (parts a (tot ws) ws)) 0 (by omega) (fun n hn => (hf.2.2.2.2.2.1 n hn).1) (by rw [hf.2.2.2.2.1]; have := ha.2; omega)
      refine ⟨by rw [spr_length]; simp [parts], by rw [sumE, hs], by rw [sumV, hs, hf.2.2.2.2.1]; simp, hf.2.2.2.2.2.2⟩
  · rw [shareE, if_pos h0] at h
    exact absurd h h0

set_option maxRecDepth 100000 in
set_option maxHeartbeats 4000000 in
theorem walk (a : Int) (s : Option Addr) (len cap : Nat) (zs : List Int) (w : World) (wa : (Lit.int .u64 a).wf = true) (hR : IsRow .u64 w s len cap zs) :
    Calls Try.prog 11 #[.int .u64 a, .slice s len cap] w fun e w' => e = .returned (.bool true) ∧ Below w.heap.size w w' := by
  have ha := word_wf wa
  clear wa
  obtain ⟨ws, rfl, hN⟩ := hR.nums
  clear hR
  have HN := Lib.hid hN
  have HW := Lib.hid hN.2.1
  clear hN
  by_cases h200 : ws.length ≤ 200
  · go_enter Try.func11, Try.ntmps11
    go_wp2_with fail
    refine (share_any _ _ _ ws _ ha HN.out h200).mono ?_
    rintro e w1 ⟨a1, c1, rfl, hN1, h1⟩
    have HN1 := Lib.hid hN1
    have HB1 := Lib.hid h1
    clear hN1 h1
    go_wp2_with fail
    refine (rshare_any _ _ _ ws _ ha (HN.out.below HB1.out) h200).mono ?_
    rintro e w2 ⟨a2, c2, rfl, hN2, h2⟩
    have HB2 := Lib.hid (HB1.out.trans (h2.mono HB1.out.size))
    have HN2 := Lib.hid hN2
    have HN12 := Lib.hid (HN1.out.below h2)
    clear hN2 h2
    go_wp2_with fail
    refine (same_any _ _ _ _ _ _ HN12.out HN2.out).mono ?_
    rintro e w3 ⟨rfl, n3, rfl⟩
    have HB3 := Lib.hid (below_drewN HB2.out n3)
    have HS3 := Lib.hid (HN12.out.below (below_drewN (Below.refl _ _) n3))
    have HN3 := Lib.hid (HN.out.below HB3.out)
    generalize w2.drewN n3 = W at *
    clear HN HN1 HB1 HB2 HN2 HN12
    have HE := Lib.hid (share_end a ws ha HW.out)
    obtain ⟨E, hE⟩ : ∃ E, (shareE a ws).1 = E := ⟨_, rfl⟩
    obtain ⟨l, hl⟩ : ∃ l, (shareE a ws).2 = l := ⟨_, rfl⟩
    rw [hE, hl]
    rw [hl] at HS3
    rw [hE, hl] at HE
    clear hE hl
    have b0 : (E != E) = false := by simp
    by_cases e0 : E = 0
    · obtain ⟨g1, g2, g3, g4⟩ := HE.out e0
      subst e0
      have HG := Lib.hid g4
      have hsum := sum_any a1 c1 l W HS3.out
      rw [g2, g3] at hsum
      have HSM := Lib.hid hsum
      clear hsum g2 g3 g4
      obtain ⟨nf, hnf⟩ : ∃ n, ws.length = n := ⟨_, rfl⟩
      rw [hnf] at g1 h200 ⊢
      rw [g1] at HSM ⊢
      have HQ : Hid (ws.length = nf ∧ l.length = nf) := ⟨hnf, g1⟩
      clear hnf g1
      have b1 : (a == a) = true := by simp
      go_wp2_with fail
      refine HSM.out.mono ?_
      rintro e w4 ⟨rfl, rfl⟩
      go_wp2_with fail
      go_loop [48, 11, 12] (fun i _ _ => ∃ (j : Nat), j ≤ nf ∧ i = .int .i64 j) (fun i _ _ => nf - (intOf i).toNat)
      case atStart => exact ⟨0, Nat.zero_le _, rfl⟩
      case round =>
        obtain ⟨j, hj, rfl⟩ := hrel
        by_cases hlt : j < nf
        · have hne : ws ≠ [] := by rintro h; have := HQ.out.1; rw [h] at this; simp at this; omega
          have hne2 : l ≠ [] := by rintro h; have := HQ.out.2; rw [h] at this; simp at this; omega
          obtain ⟨g, o, rfl, hg, hcw⟩ := HN3.out.addr hne
          obtain ⟨g', o', rfl, hg', hcl⟩ := HS3.out.addr hne2
          have d1 := hcw j (by rw [HQ.out.1]; exact hlt)
          have d2 := hcl j (by rw [HQ.out.2]; exact hlt)
          obtain ⟨x, hx⟩ : ∃ x, ws.getD j 0 = x := ⟨_, rfl⟩
          obtain ⟨y, hy⟩ : ∃ y, l.getD j 0 = y := ⟨_, rfl⟩
          have hxy : x = 0 → y = 0 := fun h => by rw [← hy]; exact HG.out j (by rw [hx]; exact h)
          rw [hx] at d1
          rw [hy] at d2
          clear hx hy hcw hcl hne hne2
          by_cases h0 : x = 0
          · have hy0 := hxy h0
            subst h0
            subst hy0
            clear hxy
            go_wp2_with fail
            go_round
            case rel => exact ⟨j + 1, by omega, by go_num⟩
            case measure => simp [intOf]; omega
          · have b2 : (x == 0) = false := by simpa using h0
            clear hxy h0
            go_wp2_with fail
            go_round
            case rel => exact ⟨j + 1, by omega, by go_num⟩
            case measure => simp [intOf]; omega
        · go_wp2_with fail
          refine (awake_any _).mono ?_
          rintro e w8 ⟨rfl, h8⟩
          have H8 := Lib.hid (HB3.out.trans (h8.mono HB3.out.size))
          clear h8
          go_wp2
          go_ret
          exact ⟨rfl, H8.out⟩
    · have b1 : (E != 0) = true := by simpa using e0
      clear e0
      go_wp2_with fail
      refine (awake_any _).mono ?_
      rintro e w6 ⟨rfl, h6⟩
      go_wp2
      go_ret
      exact ⟨rfl, HB3.out.trans (h6.mono HB3.out.size)⟩
  · have h201 : 200 < ws.length := by omega
    go_enter Try.func11, Try.ntmps11
    go_wp2_with fail
    refine (awake_any _).mono ?_
    rintro e w1 ⟨rfl, h1⟩
    go_wp2
    go_ret
    exact ⟨rfl, h1⟩

set_option linter.unusedVariables false
theorem own : ownKnob Try.prog.godebug = none := by kernel_rfl
theorem laidOut : laidOutB Try.prog = true := by kernel_rfl

set_option maxRecDepth 100000 in
theorem lifted (os : Os) (started : os.Started) (H : Type) (enc : TypeId × Value → H) :
    ReturnsInHanded {} Try.checked os 11 .any (Rows.moneySharesSpec.pre6 enc Try.prog Try.f11 Rows.moneySharesRow.domain false) (Rows.moneySharesSpec.post enc Try.prog Try.f11 false true false false) := by
  refine returnsInHanded_of_change (C := Try.checked) own started (by kernel_rfl) Try.func11
    (ChangeSpec.witness6 (enc := enc) (C := Try.checked) false ⟨#[], #[.int .u64 0, .slice none 0 0], []⟩ 8 (by kernel_rfl) (by kernel_rfl) (by kernel_rfl) (by kernel_rfl)) ?_
  intro W base args ds gs before hval0 hW hcnd _
  have hval : ∀ (j : Nat) t v, Try.f11.params[j]? = some t → args[j]? = some v → Value.okWide Try.prog W .any base t v := hval0
  have hW' := hW
  obtain ⟨p, q, hA0, hV, rfl, hfz, hnd⟩ := hW
  have hA : DataW.TrodAll enc Try.prog W 0 (fun _ => true) true Try.f11.params.toList args.toList ds p := hA0
  rw [Try.params11] at hA hval
  obtain ⟨v0, vs0, d0, ds0, p0, q0, hargs, rfl, rfl, h0, r0⟩ := trodAll_cons hA
  obtain ⟨v1, vs1, d1, ds1, p1, q1, rfl, rfl, rfl, h1, r1⟩ := trodAll_cons r0
  obtain ⟨rfl, rfl, rfl⟩ := trodAll_nil r1
  obtain rfl : args = #[v0, v1] := by cases args; simp_all
  obtain ⟨rfl, rfl⟩ := trodVars_none hV
  obtain ⟨a0, rfl, rfl, rfl, w0⟩ := open_int Try.underlying28 (hval 0 28 v0 rfl rfl) h0
  obtain ⟨a1, len1, cap1, rfl⟩ := okWide_slice Try.underlying23 (hval 1 23 v1 rfl rfl)
  have k1 := h1
  have lt1 : ∀ x ∈ p1, x.block < W.heap.size := by obtain ⟨m, hm⟩ := k1; exact DataW.trod_lt m _ _ _ hm
  obtain ⟨z1, w1⟩ : ∃ zs, IsRow .u64 W a1 len1 cap1 zs := by
    obtain ⟨fuel, hf⟩ := h1
    rcases open_ints Try.underlying23 Try.underlying28 (by kernel_rfl) hf with ⟨hcs, _⟩ | ⟨x, l, c, zs, hcs, _, hl, hm, hz, _, hcell, hwz⟩
    · simp [Value.cells] at hcs
      obtain ⟨rfl, rfl, rfl⟩ := hcs
      exact ⟨[], .inl ⟨rfl, rfl, rfl, rfl⟩⟩
    · simp [Value.cells] at hcs
      obtain ⟨rfl, rfl, rfl⟩ := hcs
      exact ⟨zs, .inr ⟨_, rfl, hl, hm, by simpa using hz, hcell, hwz⟩⟩
  clear hA0 hval0
  refine (walk a0 a1 len1 cap1 z1 W w0 w1).mono fun e W' ⟨he, bel⟩ => ?_
  subst he
  exact ⟨_, rfl, _, _, _, [], _, [], hW', trodAll_mk1 (shut_bool Try.underlying4 _), (trodAll_cons_mk (shut_int Try.underlying28 w0) (trodAll_cons_mk (Below.trod laidOut (by kernel_rfl) (of_decide_eq_true (by kernel_rfl)) k1 bel lt1) trodAll_mk0)), rfl, bel.frame _, fun h => by cases h⟩

theorem proved : Rows.MoneySharesSaid :=
  OpenClaim.holds_of_wide 11 Try.f11 rfl rfl rfl rfl rfl rfl rfl ⟨rfl, rfl, rfl, rfl, rfl⟩ rfl rfl rfl rfl rfl (by kernel_rfl) Try.func11 (by kernel_rfl)
    (of_decide_eq_true (by kernel_rfl)) (by unfold Func.isWrapper; first | (rw [if_pos (by decide +kernel)]; kernel_rfl) | (rw [if_neg (by decide +kernel)]; exact ⟨rfl, rfl⟩))
    (fun os started H enc _ => lifted os started H enc)
#print axioms proved

end Go.Proofs.Ytneacogenjlhgaa.moneyShares
