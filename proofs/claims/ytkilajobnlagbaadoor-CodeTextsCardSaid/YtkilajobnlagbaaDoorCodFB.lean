/-
  The document's Check 19.
-/
import Derived.Test.YtkilajobnlagbaaDoorCodFA
namespace Go.Proofs.YtkilajobnlagbaaDoor
open Go.RowKit
set_option linter.unusedVariables false

/-- No order up to a place leaps to where none begins. -/
def NoLost (p : List Int) (bs : List Nat) (k : Nat) : Prop := ∀ i, i < k → bs.contains i = true → lost p bs i = false
theorem noLost_any (p : List Int) (bs : List Nat) (n : Nat) (h : NoLost p bs n) (hb : ∀ b ∈ bs, b < n) : bs.any (lost p bs) = false := by
  rw [List.any_eq_false]
  intro b hm
  rw [h b (hb b hm) (by simpa using hm)]
  simp
theorem lost_any (p : List Int) (bs : List Nat) (k : Nat) (h : bs.contains k = true) (hl : lost p bs k = true) : bs.any (lost p bs) = true := by
  rw [List.any_eq_true]
  exact ⟨k, by simpa using h, hl⟩
theorem NoLost.succ {p : List Int} {bs : List Nat} {k : Nat} (h : NoLost p bs k) (hk : bs.contains k = true → lost p bs k = false) : NoLost p bs (k + 1) := by
  intro i hi hc
  rcases Nat.lt_or_ge i k with h1 | h1
  · exact h i h1 hc
  · have : i = k := by omega
    subst this
    exact hk hc

set_option maxRecDepth 100000 in
set_option maxHeartbeats 4000000 in
theorem rcheck_any (A : Option Addr) (n c : Nat) (p : List Int) (w : World) (HP : Hid (Pg w A n c p)) :
    Calls Tryd.prog 19 #[.slice A n c] w fun e w' => e = .returned (.int .i64 (ordsV p).1) ∧ Below w.heap.size w w' := by
  have hl := HP.out.len
  by_cases h : 256 < n
  · have e : ordsV p = (1, []) := by unfold ordsV; rw [if_pos (by omega)]
    rw [e]
    have d1 : (256 : Int) < (n : Int) := by omega
    clear HP h e
    go_enter Tryd.func19, Tryd.ntmps19
    go_wp2
    go_ret
    exact ⟨rfl, Below.refl _ _⟩
  · have d1 : ¬ ((256 : Int) < (n : Int)) := by omega
    rw [ordsV_le p (by omega)]
    obtain ⟨R, hR⟩ : ∃ x, begF p (p.length + 1) 0 [] = x := ⟨_, rfl⟩
    rw [hR]
    have HR := Lib.hid hR
    have HL := Lib.hid hl
    clear hR
    obtain ⟨i4, hi4, hzz⟩ := Option.map_eq_some_iff.1 info4b
    simp only [Prod.mk.injEq] at hzz
    obtain ⟨hz0, hz1, hz2⟩ := hzz
    go_enter Tryd.func19, Tryd.ntmps19
    go_wp2_with (at_make; refine wpList_make_full _ rfl (.tmp 16) (.tmp 16) 24 rfl w.heap.size 4 i4 (.bool false) 1 Tryd.underlying24 hi4 hz0 hz1 .i64 .i64 _ _ n rfl rfl ?c1 ?c2 ?c3 ?c4 ?c5 ?_)
    all_goals first | exact Nat.le_refl _ | rfl | omega | (rw [hz2]; omega) | (unfold maxLen; omega) | skip
    intro w1 hown hg
    have B1 : Hid (Below w.heap.size w w1) := Lib.hid ((Below.refl _ _).grown hg (Nat.le_refl _) (by simp))
    have G1 : Hid (Blk w1 w.heap.size 4 (begs n [])) := Lib.hid (mkBegs (by rw [Nat.mul_one]; exact hown))
    clear hown hg hi4 hz0 hz1 hz2
    go_wp2
    go_loopw [4] (fun t wr => ∃ (bs : List Nat) (k f : Nat), t = .int .i64 k ∧ k ≤ n ∧ n < f + k ∧ Hid (begF p f k bs = R) ∧ Hid (Blk wr w.heap.size 4 (begs n bs)) ∧ Hid (∀ b ∈ bs, ordE p b = 0) ∧ Hid (Below w.heap.size w wr)) (fun t _ => n - (intOf t).toNat)
    case atStart => exact ⟨[], 0, n + 1, rfl, by omega, by omega, by rw [← hl]; exact HR, G1, Lib.hid (by simp), B1⟩
    case round =>
      obtain ⟨bs, k, f, rfl, hk, hf, HR2, HG, HE, HB⟩ := hrel
      obtain ⟨f, rfl⟩ : ∃ f', f = f' + 1 := ⟨f - 1, by omega⟩
      have hR := HR2.out
      rw [begF] at hR
      have k0 : (0 : Int) ≤ (k : Int) := Int.natCast_nonneg _
      by_cases hlt : k < n
      · rw [if_neg (by omega)] at hR
        have hOA := Lib.hid (rorder_any A n c k p wr (Lib.hid (HP.out.below HB.out)) (by omega))
        have kn : (k : Int) < (n : Int) := by omega
        by_cases hE : ordE p k = 0
        · obtain ⟨hop18, hble⟩ := ord_ok hE
          rw [if_neg (by simpa using hE)] at hR
          have hor : ordR p k = .tuple #[.int .i64 (opAt p k : Int), .int .u64 (numAt p k), .int .i64 0] := by unfold ordR; rw [if_pos hE]
          rw [hor] at hOA
          have HE2 : Hid (∀ b ∈ bs ++ [k], ordE p b = 0) := Lib.hid (by
            intro b hb
            rcases List.mem_append.1 hb with h | h
            · exact HE.out b h
            · simp at h; subst h; exact hE)
          have HM := Lib.hid (fun w => more_any (opAt p k) hop18 w)
          obtain ⟨op, hop⟩ : ∃ x, opAt p k = x := ⟨_, rfl⟩
          rw [hop] at hOA HM hR hble
          have hF8 := fol_le op
          obtain ⟨F, hF⟩ : ∃ F, fol op = F := ⟨_, rfl⟩
          rw [hF] at HM hR hble hF8
          obtain ⟨num, hnum⟩ : ∃ x, numAt p k = x := ⟨_, rfl⟩
          rw [hnum] at hOA
          have F0 : (0 : Int) ≤ (F : Int) := Int.natCast_nonneg _
          have F8 : (F : Int) ≤ 8 := by omega
          have n9 : (n : Int) ≤ 256 := by omega
          have cG := HG.out.cell k
          rw [begs_get n k bs hlt] at cG
          have fG := HG.out.frozen k
          have HR3 := Lib.hid hR
          clear hor hE hop hop18 hF hnum hR HR2 HR h
          go_wp2_with fail
          refine hOA.out.mono ?_
          rintro e w2 ⟨rfl, rfl⟩
          clear hOA
          go_upto_region 10 with fail
          have hGr : w2.grownBy (w2.setCell ⟨w.heap.size, k, none⟩ (.bool true)) (some w.heap.size) := only_setCell (p := ⟨w.heap.size, k, none⟩) (only_refl w2 (some w.heap.size)) (.inl rfl) (.bool true)
          have HG4 : Hid (Blk (w2.setCell ⟨w.heap.size, k, none⟩ (.bool true)) w.heap.size 4 (begs n (bs ++ [k]))) := Lib.hid (by rw [← begs_set]; exact HG.out.set_ k _)
          have HB4 : Hid (Below w.heap.size w (w2.setCell ⟨w.heap.size, k, none⟩ (.bool true))) := Lib.hid (HB.out.grown hGr HB.out.size (fun j hj => by injection hj with hj; omega))
          clear hGr HG HB cG fG
          generalize w2.setCell ⟨w.heap.size, k, none⟩ (.bool true) = X at HG4 HB4 ⊢
          go_wp2_with fail
          refine (HM.out _).mono ?_
          rintro e w3 ⟨rfl, rfl⟩
          go_wp2_with fail
          exact ⟨⟨bs ++ [k], k + 1 + F, f, by go_num, by omega, by omega, HR3, HG4, HE2, HB4⟩, by simp [intOf]; omega⟩
        · rw [if_pos hE] at hR
          subst hR
          have e : ordsW p (ordE p k, []) = (ordE p k, []) := by unfold ordsW; rw [if_pos hE]
          have hor : ordR p k = .tuple #[.int .i64 0, .int .u64 0, .int .i64 (ordE p k)] := by unfold ordR; rw [if_neg hE]
          rw [hor] at hOA
          have He := Lib.hid e
          obtain ⟨E, hEe⟩ : ∃ x, ordE p k = x := ⟨_, rfl⟩
          rw [hEe] at hOA hE
          have HEe := Lib.hid hEe
          clear HR HR2 hor e hEe
          go_wp2_with fail
          refine hOA.out.mono ?_
          rintro e2 w2 ⟨rfl, rfl⟩
          clear hOA
          go_wp2_with fail
          go_ret
          rw [He.out, HEe.out]
          exact ⟨rfl, HB.out⟩
      · obtain rfl : k = n := by omega
        rw [if_pos (by omega)] at hR
        have HR3 := Lib.hid hR
        have HBN : Hid (∀ b ∈ bs, b < k) := Lib.hid (by
          intro b hb
          have := (ord_ok (HE.out b hb)).2
          omega)
        have k9 : (k : Int) ≤ 256 := by omega
        clear HR HR2 hR hlt hf
        go_wp2
        go_loopw [8] (fun t wr => ∃ i : Nat, t = .int .i64 i ∧ i ≤ k ∧ Hid (NoLost p bs i) ∧ Hid (Blk wr w.heap.size 4 (begs k bs)) ∧ Hid (Below w.heap.size w wr)) (fun t _ => k - (intOf t).toNat)
        case atStart => exact ⟨0, rfl, by omega, Lib.hid (fun i hi => absurd hi (Nat.not_lt_zero _)), HG, HB⟩
        case round =>
          clear HG HB
          obtain ⟨i, rfl, hi, HN, HG, HB⟩ := hrel
          have i0 : (0 : Int) ≤ (i : Int) := Int.natCast_nonneg _
          by_cases hlt : i < k
          · have ik : (i : Int) < (k : Int) := by omega
            have cG := HG.out.cell i
            rw [begs_get k i bs hlt] at cG
            by_cases hc : bs.contains i = true
            · rw [hc] at cG
              have hE := HE.out i (by simpa using hc)
              obtain ⟨hop18, hble⟩ := ord_ok hE
              obtain ⟨g, o, rfl, hg, hsrc⟩ : ∃ g o, A = some ⟨g, o, none⟩ ∧ g < wr.heap.size ∧ ∀ i, i < p.length → wr.cell? ⟨g, o + i, none⟩ = some (.int .u8 (p.getD i 0)) := by
                rcases (HP.out.below HB.out).src.2 with h | ⟨g, o, h, h2, h3⟩
                · rw [h] at hble; simp at hble
                · exact ⟨g, o, h, h2, h3⟩
              have hcell := hsrc i (by omega)
              have hb := HP.out.bytes (p.getD i 0) (by rw [List.getD, List.getElem?_eq_getElem (by omega)]; exact List.getElem_mem _)
              obtain ⟨op, hop⟩ : ∃ op, opAt p i = op := ⟨_, rfl⟩
              have hopI : p.getD i 0 = (op : Int) := by rw [← hop]; unfold opAt; omega
              rw [hopI] at hcell
              have op0 : (0 : Int) ≤ (op : Int) := Int.natCast_nonneg _
              have op2 : (op : Int) < 256 := by omega
              clear hsrc hb hg
              by_cases hlp : op = 11 ∨ op = 12
              · have hor : ordR p i = .tuple #[.int .i64 (opAt p i : Int), .int .u64 (numAt p i), .int .i64 0] := by unfold ordR; rw [if_pos hE]
                have hOA := Lib.hid (rorder_any (some ⟨g, o, none⟩) k c i p wr (Lib.hid (HP.out.below HB.out)) (by omega))
                rw [hor, hop] at hOA
                obtain ⟨num, hnu, hnum, _⟩ := num_nat HP.out i
                rw [hnu] at hOA
                have num0 : (0 : Int) ≤ (num : Int) := Int.natCast_nonneg _
                have hlpb : leapB op = true := by rcases hlp with rfl | rfl <;> rfl
                by_cases hbig : k ≤ num
                · have hlost : lost p bs i = true := by
                    unfold lost
                    rw [hop, hlpb, hnu, show decide ((p.length : Int) ≤ (num : Int)) = true from decide_eq_true (by have := HL.out; omega)]
                    rfl
                  have HLO := Lib.hid (lost_any p bs i hc hlost)
                  have HR4 := HR3
                  have kb : (k : Int) ≤ (num : Int) := by omega
                  rcases hlp with rfl | rfl
                  all_goals
                    clear hlost hnu hor hop hE hc hopI hlpb HN hble hop18
                    go_wp2_with fail
                    refine hOA.out.mono ?_
                    rintro e2 w2 ⟨rfl, rfl⟩
                    go_wp2_with fail
                    go_ret
                    rw [← HR3.out]
                    unfold ordsW
                    rw [if_neg (by simp), if_pos HLO.out]
                    exact ⟨rfl, HB.out⟩
                · have kb : (num : Int) < (k : Int) := by omega
                  have cN := HG.out.cell num
                  rw [begs_get k num bs (by omega)] at cN
                  cases hB2 : bs.contains num with
                  | true =>
                    rw [hB2] at cN
                    have hlost : lost p bs i = false := by
                      unfold lost
                      rw [hop, hlpb, hnu, show decide ((p.length : Int) ≤ (num : Int)) = false from decide_eq_false (by have := HL.out; omega), Int.toNat_natCast, hB2]
                      rfl
                    have HN2 : Hid (NoLost p bs (i + 1)) := Lib.hid (HN.out.succ (fun _ => hlost))
                    rcases hlp with rfl | rfl
                    all_goals
                      clear hlost hnu hor hop hE hc hopI hlpb HN hble hop18 hB2
                      go_wp2_with fail
                      refine hOA.out.mono ?_
                      rintro e2 w2 ⟨rfl, rfl⟩
                      go_wp2_with fail
                      exact ⟨⟨i + 1, by go_num, by omega, HN2, HG, HB⟩, by simp [intOf]; omega⟩
                  | false =>
                    rw [hB2] at cN
                    have hlost : lost p bs i = true := by
                      unfold lost
                      rw [hop, hlpb, hnu, Int.toNat_natCast, hB2]
                      simp
                    have HLO := Lib.hid (lost_any p bs i hc hlost)
                    rcases hlp with rfl | rfl
                    all_goals
                      clear hlost hnu hor hop hE hc hopI hlpb HN hble hop18 hB2
                      go_wp2_with fail
                      refine hOA.out.mono ?_
                      rintro e2 w2 ⟨rfl, rfl⟩
                      go_wp2_with fail
                      go_ret
                      rw [← HR3.out]
                      unfold ordsW
                      rw [if_neg (by simp), if_pos HLO.out]
                      exact ⟨rfl, HB.out⟩
              · have hlost : lost p bs i = false := by
                  have : leapB op = false := by
                    unfold leapB
                    simp
                    omega
                  unfold lost
                  rw [hop, this]
                  rfl
                have HN2 : Hid (NoLost p bs (i + 1)) := Lib.hid (HN.out.succ (fun _ => hlost))
                obtain ⟨X, hX⟩ : ∃ X : Int, X = (op : Int) := ⟨_, rfl⟩
                rw [← hX] at hcell
                have o11 : (X == 11) = false := by rw [beq_eq_false_iff_ne]; omega
                have o12 : (X == 12) = false := by rw [beq_eq_false_iff_ne]; omega
                have p11 : ¬ X = 11 := by omega
                have p12 : ¬ X = 12 := by omega
                clear hlost hop hE hc hopI HN hlp hble hop18 op0 op2 hX o11 o12
                go_wp2_with fail
                all_goals first | (rcases ‹(_ = false) ∨ (_ = false)› with h | h <;> simp at h <;> first | exact absurd h p11 | exact absurd h p12) | (exact ⟨⟨i + 1, by go_num, by omega, HN2, HG, HB⟩, by simp [intOf]; omega⟩)
            · have hc : bs.contains i = false := by simpa using hc
              rw [hc] at cG
              have HN2 : Hid (NoLost p bs (i + 1)) := Lib.hid (HN.out.succ (fun h => by rw [hc] at h; cases h))
              clear hc HN
              go_wp2_with fail
              exact ⟨⟨i + 1, by go_num, by omega, HN2, HG, HB⟩, by simp [intOf]; omega⟩
          · have hik : i = k := by omega
            subst hik
            have HAN := Lib.hid (noLost_any p bs i HN.out HBN.out)
            go_wp2_with fail
            go_ret
            rw [← HR3.out]
            unfold ordsW
            rw [if_neg (by simp), if_neg (by rw [HAN.out]; simp)]
            exact ⟨rfl, HB.out⟩
end Go.Proofs.YtkilajobnlagbaaDoor
