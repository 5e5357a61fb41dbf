/-
  tollhouselaw02.MoneyPays returns true for every input: whoever lets an amount through has just the fee, at each place of a way; nothing that was there is written.
-/
import Derived.Test.YtneacogenjlhgaaRows
import Derived.Test.YtneacogenjlhgaaMoneyOrder
import Derived.Deep.RegionHeld3
namespace Go.Proofs.Ytneacogenjlhgaa.moneyPays
open Go.ChangeShapes Go.WideShapes Go.ChangeAt Go.RowKit
open Go.Proofs.Ytneacogenjlhgaa.moneyOrder (over_ok add_ok)
set_option linter.unusedVariables false

/-- At each place of a way: the amount is the next one, with its fee; the last one is what arrives. -/
theorem back_pays (x : Int) (fs : List (Int × Int)) (l : List Int) (h : backE x fs = (0, l)) :
    l.getD fs.length 0 = x ∧ ∀ j, j < fs.length → overE (fs.getD j (0, 0)).1 (fs.getD j (0, 0)).2 (l.getD (j + 1) 0) = 0 ∧ l.getD j 0 = overV (fs.getD j (0, 0)).1 (fs.getD j (0, 0)).2 (l.getD (j + 1) 0) := by
  induction fs generalizing l with
  | nil =>
    simp [backE] at h
    subst h
    exact ⟨rfl, fun j hj => by simp at hj⟩
  | cons f r ih =>
    rw [backE] at h
    generalize hb : backE x r = b at *
    obtain ⟨e, q⟩ := b
    simp only at h
    split at h
    · rename_i h1
      simp at h
      exact absurd h.1 h1
    · split at h
      · rename_i h1 h2
        exact absurd (congrArg Prod.fst h) h2
      · rename_i h1 h2
        have e0 : e = 0 := by simpa using h1
        subst e0
        obtain rfl : overV f.1 f.2 (q.headD 0) :: q = l := congrArg Prod.snd h
        obtain ⟨i1, i2⟩ := ih q rfl
        refine ⟨by simpa using i1, fun j hj => ?_⟩
        cases j with
        | zero =>
          have hq : q.headD 0 = q.getD 0 0 := by cases q <;> rfl
          rw [hq] at h2 ⊢
          exact ⟨by simpa using h2, by simp⟩
        | succ j =>
          have := i2 j (by simpa using hj)
          simpa using this

set_option maxRecDepth 100000 in
set_option maxHeartbeats 4000000 in
theorem walk (a : Int) (s : Option Addr) (len cap : Nat) (fs : List (Int × Int)) (w : World) (wa : (Lit.int .u64 a).wf = true) (hF : IsFees w s len cap fs) :
    Calls Try.prog 10 #[.int .u64 a, .slice s len cap] w fun e w' => e = .returned (.bool true) ∧ Below w.heap.size w w' := by
  have ha := word_wf wa
  clear wa
  obtain ⟨rfl, hN⟩ := hF
  have HN := Lib.hid hN
  have HW := Lib.hid hN.2
  clear hN
  by_cases h20 : fs.length ≤ 20
  · go_enter Try.func10, Try.ntmps10
    go_wp2_with fail
    refine (fees_row _ _ fs _ HN.out (by omega)).mono ?_
    rintro e w4 ⟨a4, c4, rfl, hN4, h4⟩
    have HN4 := Lib.hid hN4
    have HB4 := Lib.hid h4
    clear hN4 h4
    go_wp2_with fail
    refine (back_any _ _ _ fs _ ha HN4.out (by omega)).mono ?_
    rintro e w5 ⟨a5, c5, rfl, hN5, h5⟩
    have HB5 := Lib.hid (HB4.out.trans (h5.mono HB4.out.size))
    have HNF := Lib.hid (HN4.out.below h5)
    have HE := Lib.hid (backE_word a fs ha HW.out)
    have HN5 := Lib.hid hN5
    clear hN5 h5
    obtain ⟨E, hE⟩ : ∃ E, (backE a fs).1 = E := ⟨_, rfl⟩
    obtain ⟨ls, hls⟩ : ∃ l, (backE a fs).2 = l := ⟨_, rfl⟩
    have HBK : Hid (backE a fs = (E, ls)) := Lib.hid (by rw [← hE, ← hls])
    rw [hE, hls]
    rw [hls] at HN5
    rw [hE, hls] at HE
    clear hE hls
    by_cases e0 : E = 0
    · have hlen : ls.length = fs.length + 1 := HE.out.2.2.1 e0
      have b0 : (E != 0) = false := by simp [e0]
      subst e0
      have HP := Lib.hid (back_pays a fs ls HBK.out)
      obtain ⟨nl, hnl⟩ : ∃ n, ls.length = n := ⟨_, rfl⟩
      obtain ⟨nf, hnf⟩ : ∃ n, fs.length = n := ⟨_, rfl⟩
      rw [hnl, hnf]
      rw [hnl, hnf] at hlen
      have HQ : Hid (ls.length = nl ∧ fs.length = nf ∧ nl = nf + 1) := ⟨hnl, hnf, hlen⟩
      have hnf2 : nf ≤ 20 := by omega
      subst hlen
      clear hnl hnf h20
      rcases HN5.out.1 with h0 | ⟨g, o, rfl, hg, hcell⟩
      · exfalso
        have := HQ.out.1
        rw [h0] at this
        simp at this
      · have HC := Lib.hid hcell
        clear hcell
        have hq : (((nf : Int) + 1) != (nf : Int) + 1) = false := by simp
        go_wp2_with fail
        go_loopw [40, 8] (fun i _ wr => ∃ (j : Nat), j ≤ nf ∧ i = .int .i64 j ∧ Hid (Below w5.heap.size w5 wr)) (fun i _ _ => nf - (intOf i).toNat)
        case atStart => exact ⟨0, Nat.zero_le _, rfl, Lib.hid (Below.refl _ _)⟩
        case round =>
          obtain ⟨j, hj, rfl, HR⟩ := hrel
          by_cases hlt : j < nf
          · rcases HNF.out.1 with h0 | ⟨gf, of, rfl, hgf, hcf⟩
            · exfalso
              have := HQ.out.2.1
              rw [h0] at this
              simp at this
              omega
            · obtain ⟨f, hf⟩ : ∃ f, fs.getD j (0, 0) = f := ⟨_, rfl⟩
              obtain ⟨c1, c2⟩ := hcf j (by rw [HQ.out.2.1]; exact hlt)
              obtain ⟨p1, p2⟩ := HP.out.2 j (by rw [HQ.out.2.1]; exact hlt)
              obtain ⟨w1, w2⟩ := HNF.out.word j
              rw [hf] at c1 c2 p1 p2 w1 w2
              obtain ⟨f1, f2⟩ := f
              simp only at c1 c2 p1 p2 w1 w2
              have k1 := HC.out (j + 1) (by rw [HQ.out.1]; omega)
              have k0 := HC.out j (by rw [HQ.out.1]; omega)
              have wy := HN5.out.getD_word (j + 1)
              obtain ⟨y1, hy1⟩ : ∃ y, ls.getD (j + 1) 0 = y := ⟨_, rfl⟩
              obtain ⟨y0, hy0⟩ : ∃ y, ls.getD j 0 = y := ⟨_, rfl⟩
              rw [hy1] at k1 p1 p2 wy
              rw [hy0] at k0 p2
              obtain ⟨o1, o2⟩ := over_ok p1
              rw [o2] at p2
              have wo := ofV_word w1 w2 wy
              have b1 : (ofE f1 f2 y1 != 0) = false := by simp [o1]
              have b2 : IntKind.u64.wrap (y0 - y1) = ofV f1 f2 y1 := by rw [p2, show y1 + ofV f1 f2 y1 - y1 = ofV f1 f2 y1 by omega]; exact wrap_id _ wo.1 (by have := wo.2; omega)
              have b3 : decide (y0 < y1) = false := by have := wo.1; simp; omega
              clear hy1 hy0 hf p1 p2 o1 o2 hcf
              rw [← HR.out.cell (p := ⟨gf, of + j * 2, none⟩) hgf] at c1
              rw [← HR.out.cell (p := ⟨gf, of + j * 2 + 1, none⟩) hgf] at c2
              rw [← HR.out.cell (p := ⟨g, o + (j + 1), none⟩) hg] at k1
              rw [← HR.out.cell (p := ⟨g, o + j, none⟩) hg] at k0
              have s1 : gf < wr.heap.size := Nat.lt_of_lt_of_le hgf HR.out.size
              have s2 : g < wr.heap.size := Nat.lt_of_lt_of_le hg HR.out.size
              go_wp2_with fail
              have q1 : IntKind.i64.wrap ((j : Int) + 1) = (j : Int) + 1 := IntWalk.i64_in _ ⟨by omega, by omega⟩
              have q2 : (0 : Int) ≤ (j : Int) := by omega
              have q3 : (j : Int) < (nf : Int) + 1 := by omega
              have q4 : (0 : Int) ≤ (j : Int) + 1 := by omega
              have q5 : (j : Int) + 1 < (nf : Int) + 1 := by omega
              have q6 : ((j : Int) + 1).toNat = j + 1 := by omega
              have d1 : (wr.alloc (.cells #[.int .u64 f1, .int .u64 f2] 78)).cell? ⟨wr.heap.size, 0, none⟩ = some (.int .u64 f1) := by simp
              have d2 : (wr.alloc (.cells #[.int .u64 f1, .int .u64 f2] 78)).cell? ⟨wr.heap.size, 1, none⟩ = some (.int .u64 f2) := by simp
              have d3 : (wr.alloc (.cells #[.int .u64 f1, .int .u64 f2] 78)).cell? ⟨g, o + (j + 1), none⟩ = some (.int .u64 y1) := (World.cell?_alloc_lt _ _ _ s2).trans k1
              have d4 : (wr.alloc (.cells #[.int .u64 f1, .int .u64 f2] 78)).cell? ⟨g, o + j, none⟩ = some (.int .u64 y0) := (World.cell?_alloc_lt _ _ _ s2).trans k0
              have D5 := Lib.hid (HR.out.alloc HR.out.size (.cells #[.int .u64 f1, .int .u64 f2] 78))
              have d6 : wr.heap.size < (wr.alloc (.cells #[.int .u64 f1, .int .u64 f2] 78)).heap.size := by simp
              have d7 : g < (wr.alloc (.cells #[.int .u64 f1, .int .u64 f2] 78)).heap.size := by simp; omega
              generalize wr.alloc (.cells #[.int .u64 f1, .int .u64 f2] 78) = W1 at *
              clear c1 c2 k1 k0 s1 s2 HR
              generalize wr.heap.size = nb at *
              go_region_held3 (fun w' => w'.cell? ⟨nb, 0, none⟩ = some (.int .u64 f1) ∧ w'.cell? ⟨nb, 1, none⟩ = some (.int .u64 f2) ∧ w'.cell? ⟨g, o + (j + 1), none⟩ = some (.int .u64 y1) ∧ w'.cell? ⟨g, o + j, none⟩ = some (.int .u64 y0)) (first | exact ⟨d1, d2, d3, d4⟩ | exact ⟨(hB2.cell (p := ⟨nb, 0, none⟩) d6).trans d1, (hB2.cell (p := ⟨nb, 1, none⟩) d6).trans d2, (hB2.cell (p := ⟨g, o + (j + 1), none⟩) d7).trans d3, (hB2.cell (p := ⟨g, o + j, none⟩) d7).trans d4⟩) (first | (go_at_call 51; refine (of_any _ _ _ _ w1 w2 wy).mono ?_; rintro e w7 ⟨rfl, hB2⟩))
              have HB6 := Lib.hid (D5.out.trans ((Below.trans (Below.refl _ _).drew hB2).mono D5.out.size))
              clear d1 d2 d3 d4 d6 d7 D5 hB2
              rename_i hHeld
              obtain ⟨_, _, m1, m0⟩ := hHeld
              go_wp2_with fail
              go_quiet (fail)
              go_wp2_with fail
              clear q1 q2 q3 q4 q5 q6
              go_roundw
              case rel => exact ⟨j + 1, by omega, by go_num, Lib.hid (below_drewN HB6.out _)⟩
              case measure => simp [intOf]; omega
          · have hlast := HC.out nf (by rw [HQ.out.1]; omega)
            have hla : ls.getD nf 0 = a := by rw [← HQ.out.2.1]; exact HP.out.1
            rw [hla] at hlast
            clear hla
            have b4 : (a == a) = true := by simp
            go_wp2_with fail
            refine (awake_any _).mono ?_
            rintro e w8 ⟨rfl, h8⟩
            have h58 := HR.out.trans (h8.mono HR.out.size)
            rw [← h58.cell (p := ⟨g, o + nf, none⟩) hg] at hlast
            have H8 := Lib.hid (HB5.out.trans (h58.mono HB5.out.size))
            clear h8 h58
            go_wp2
            go_ret
            exact ⟨rfl, H8.out⟩
    · have hnil : ls = [] := HE.out.2.2.2 e0
      subst hnil
      have b0 : (E != 0) = true := by simpa using e0
      clear e0
      go_wp2_with fail
      refine (awake_any _).mono ?_
      rintro e w6 ⟨rfl, h6⟩
      go_wp2
      go_ret
      exact ⟨rfl, HB5.out.trans (h6.mono HB5.out.size)⟩
  · have h21 : 20 < fs.length := by omega
    go_enter Try.func10, Try.ntmps10
    go_wp2_with fail
    refine (awake_any _).mono ?_
    rintro e w1 ⟨rfl, h1⟩
    go_wp2
    go_ret
    exact ⟨rfl, h1⟩

set_option linter.unusedVariables false
theorem own : ownKnob Try.prog.godebug = none := by kernel_rfl
theorem laidOut : laidOutB Try.prog = true := by kernel_rfl

set_option maxRecDepth 100000 in
theorem lifted (os : Os) (started : os.Started) (H : Type) (enc : TypeId × Value → H) :
    ReturnsInHanded {} Try.checked os 10 .any (Rows.moneyPaysSpec.pre6 enc Try.prog Try.f10 Rows.moneyPaysRow.domain false) (Rows.moneyPaysSpec.post enc Try.prog Try.f10 false true false false) := by
  refine returnsInHanded_of_change (C := Try.checked) own started (by kernel_rfl) Try.func10
    (ChangeSpec.witness6 (enc := enc) (C := Try.checked) false ⟨#[], #[.int .u64 0, .slice none 0 0], []⟩ 8 (by kernel_rfl) (by kernel_rfl) (by kernel_rfl) (by kernel_rfl)) ?_
  intro W base args ds gs before hval0 hW hcnd _
  have hval : ∀ (j : Nat) t v, Try.f10.params[j]? = some t → args[j]? = some v → Value.okWide Try.prog W .any base t v := hval0
  have hW' := hW
  obtain ⟨p, q, hA0, hV, rfl, hfz, hnd⟩ := hW
  have hA : DataW.TrodAll enc Try.prog W 0 (fun _ => true) true Try.f10.params.toList args.toList ds p := hA0
  rw [Try.params10] at hA hval
  obtain ⟨v0, vs0, d0, ds0, p0, q0, hargs, rfl, rfl, h0, r0⟩ := trodAll_cons hA
  obtain ⟨v1, vs1, d1, ds1, p1, q1, rfl, rfl, rfl, h1, r1⟩ := trodAll_cons r0
  obtain ⟨rfl, rfl, rfl⟩ := trodAll_nil r1
  obtain rfl : args = #[v0, v1] := by cases args; simp_all
  obtain ⟨rfl, rfl⟩ := trodVars_none hV
  obtain ⟨a0, rfl, rfl, rfl, w0⟩ := open_int Try.underlying28 (hval 0 28 v0 rfl rfl) h0
  obtain ⟨a1, len1, cap1, rfl⟩ := okWide_slice Try.underlying69 (hval 1 69 v1 rfl rfl)
  have k1 := h1
  have lt1 : ∀ x ∈ p1, x.block < W.heap.size := by obtain ⟨m, hm⟩ := k1; exact DataW.trod_lt m _ _ _ hm
  obtain ⟨z1, w1⟩ := open69 h1
  clear hA0 hval0
  refine (walk a0 a1 len1 cap1 z1 W w0 w1).mono fun e W' ⟨he, bel⟩ => ?_
  subst he
  exact ⟨_, rfl, _, _, _, [], _, [], hW', trodAll_mk1 (shut_bool Try.underlying4 _), (trodAll_cons_mk (shut_int Try.underlying28 w0) (trodAll_cons_mk (Below.trod laidOut (by kernel_rfl) (of_decide_eq_true (by kernel_rfl)) k1 bel lt1) trodAll_mk0)), rfl, bel.frame _, fun h => by cases h⟩

theorem proved : Rows.MoneyPaysSaid :=
  OpenClaim.holds_of_wide 10 Try.f10 rfl rfl rfl rfl rfl rfl rfl ⟨rfl, rfl, rfl, rfl, rfl⟩ rfl rfl rfl rfl rfl (by kernel_rfl) Try.func10 (by kernel_rfl)
    (of_decide_eq_true (by kernel_rfl)) (by unfold Func.isWrapper; first | (rw [if_pos (by decide +kernel)]; kernel_rfl) | (rw [if_neg (by decide +kernel)]; exact ⟨rfl, rfl⟩))
    (fun os started H enc _ => lifted os started H enc)
#print axioms proved

end Go.Proofs.Ytneacogenjlhgaa.moneyPays
