/-
  tollhouseref02.Share (function 54): for every amount and every list of at most 200 weights the answer is the same as the program's; memory that was there stays as it was.
-/
import Derived.Test.YtneacogenjlhgaaShare
namespace Go.Proofs.Ytneacogenjlhgaa
open Go.RowKit
set_option linter.unusedVariables false

theorem nums_snoc (l : List Int) (v : Int) : nums l ++ [.int .u64 v] = nums (l ++ [v]) := by simp [nums]

set_option maxRecDepth 100000 in
set_option maxHeartbeats 4000000 in
theorem rshare_core (a all : Int) (b off cap len : Nat) (ws : List Int) (w : World) (ha : Word a) (HN : Hid (Nums w (some ⟨b, off, none⟩) ws)) (hb : b < w.heap.size) (HL : Hid (ws.length = len)) (hlen : len ≤ 200) (hpos : 0 < len)
    (HC : Hid (∀ i, i < ws.length → w.cell? ⟨b, off + i, none⟩ = some (.int .u64 (ws.getD i 0)))) (HA : Hid (all = sumV ws ∧ all = tot ws)) (h0 : 0 < all) (h1 : all ≤ 18446744073709551615) (HE : Hid (sumE ws = 0)) (HW : Hid (∀ n ∈ ws, Word n)) (HT : Hid (0 ≤ a - tot (parts a all ws))) :
    Calls Try.prog 54 #[.int .u64 a, .slice (some ⟨b, off, none⟩) len cap] w fun e w' => ∃ v, e = .returned (.tuple #[v, .int .i64 0]) ∧ w'.ownsRow w.heap.size 28 1 v len (nums (spr (a - tot (parts a all ws)) ws (parts a all ws))) ∧ Below w.heap.size w w' := by
  obtain ⟨i0, hi, hz0, hz1, hz2⟩ := info_parts u64_info
  have hsum := rsum_any (some ⟨b, off, none⟩) cap ws w HN.out
  rw [HL.out, ← HA.out.1, HE.out] at hsum
  have HSM := Lib.hid hsum
  clear hsum
  have b1 : (all == 0) = false := by simp; omega
  have hall : Word all := ⟨by omega, h1⟩
  go_enter Try.func54, Try.ntmps54
  go_wp2_with fail
  refine HSM.out.mono ?_
  rintro e w' ⟨rfl, rfl⟩
  go_wp2_with fail
  go_loopw [10, 9, 8, 11, 12] (fun i t v _ _ wr => ∃ (k : Nat), k ≤ len ∧ i = .int .i64 k ∧ t = .int .u64 (tot (parts a all (ws.take k))) ∧ Hid (wr.ownsRow w.heap.size 28 1 v k (nums (parts a all (ws.take k)))) ∧ Hid (Below w.heap.size w wr)) (fun i _ _ _ _ _ => len - (intOf i).toNat)
  case atStart =>
    exact ⟨0, Nat.zero_le _, rfl, rfl, Lib.hid ⟨rfl, .inl ⟨rfl, rfl⟩⟩, Lib.hid (Below.refl _ _)⟩
  case round =>
    obtain ⟨k, hk, rfl, rfl, HR, HW2⟩ := hrel
    have hn : ∀ n ∈ ws, 0 ≤ n := fun n hn => (HW.out n hn).1
    have hlk := parts_left a all ws k ha.1 h0 hn HT.out
    obtain ⟨t0, ht0⟩ : ∃ t, tot (parts a all (ws.take k)) = t := ⟨_, rfl⟩
    rw [ht0] at hlk ⊢
    by_cases hlt : k < len
    · have hkw : k < ws.length := by rw [HL.out]; exact hlt
      have hc := HC.out k hkw
      obtain ⟨x, hx⟩ : ∃ x, ws.getD k 0 = x := ⟨_, rfl⟩
      rw [hx] at hc
      rw [← HW2.out.cell (p := ⟨b, off + k, none⟩) hb] at hc
      have hwx : Word x := hx ▸ HN.out.getD_word k
      have hxa : x ≤ all := by
        rw [HA.out.2]
        refine tot_mem_le ws hn x ?_
        rw [← hx, getD_at ws k hkw]
        exact List.getElem_mem hkw
      have hpv := partV_share a x all ha hwx.1 hxa h0
      have hpt := parts_take a all ws k hkw
      rw [hx, ← hpv] at hpt
      have hl2 := parts_left a all ws (k + 1) ha.1 h0 hn HT.out
      rw [hpt, tot_append, ht0] at hl2
      simp only [tot] at hl2
      have hpw := partV_word ha hwx hall
      obtain ⟨p, hp⟩ : ∃ p, partV a x all = p := ⟨_, rfl⟩
      have HPT : Hid (parts a all (ws.take (k + 1)) = parts a all (ws.take k) ++ [p]) := Lib.hid (by rw [hpt, hp])
      have HT0 := Lib.hid ht0
      have HPV := Lib.hid hp
      rw [hp] at hl2 hpw
      obtain ⟨hpw0, hpw1⟩ := hpw
      obtain ⟨ha0, ha1⟩ := ha
      obtain ⟨hlk0, hlk1⟩ := hlk
      obtain ⟨hl20, hl21⟩ := hl2
      have hbr : b < wr.heap.size := Nat.lt_of_lt_of_le hb HW2.out.size
      clear hx hpv hpt hn ht0 hp hkw
      go_wp2_with fail
      refine (rpart_any _ _ _ _ ⟨ha0, ha1⟩ hwx hall).mono ?_
      rw [HPV.out]
      rintro e w2 ⟨rfl, hB2⟩
      have HR2 := Lib.hid (own_below HR.out hB2)
      have HW3 := Lib.hid (HW2.out.trans (hB2.mono HW2.out.size))
      clear hB2 hc
      go_wp2_with (at_builtin; refine wpList_append_own _ rfl (.tmp 40) (.tmp 42) 23 rfl w.heap.size 28 i0 (.int .u64 0) 1 8 Try.underlying23 hi hz0 hz1 hz2 rfl (by decide) _ k (nums (parts a all (ws.take k))) rfl (HR2.out.alloc _) ⟨w2.heap.size, 0, none⟩ 1 1 [.int .u64 p] rfl rfl ?c1 ?c2 ?c3 ?c4 ?c5 ?_)
      case c1 =>
        intro j u hj
        match j, hj with
        | 0, hj => simp at hj; subst hj; simp [Addr.add]
      case c2 => intro u hu; simp at hu; subst hu; rfl
      case c3 => unfold maxLen; omega
      case c4 => omega
      case c5 => have := HW3.out.size; simp; omega
      intro v' w3 hown' hgrow _
      have HB3 := Lib.hid ((HW3.out.alloc HW3.out.size _).grown hgrow (by have := HW3.out.size; simp; omega) (fun g' hg' => (HR2.out.lt g' hg').1))
      rw [nums_snoc, ← HPT.out] at hown'
      have HO3 := Lib.hid hown'
      clear hown' hgrow
      go_wp2
      go_roundw
      case rel =>
        refine ⟨k + 1, by omega, by go_num, ?_, HO3, HB3⟩
        rw [HPT.out, tot_append, HT0.out]
        simp only [tot]
        congr 1
        omega
      case measure => simp [intOf]; omega
    · obtain rfl : k = len := by omega
      have htk : ws.take k = ws := List.take_of_length_le (by rw [HL.out]; exact Nat.le_refl _)
      rw [htk] at ht0 HR
      have HT0 := Lib.hid ht0
      have hP := Lib.hid (parts_nonneg a all ws ha.1 h0 hn)
      obtain ⟨g, c, hv, hgb, hgl⟩ := HR.out.form hpos
      subst hv
      have HTL : Hid (a - t0 + tot (parts a all ws) ≤ 18446744073709551615) := Lib.hid (by rw [ht0]; have := ha.2; omega)
      obtain ⟨ha0, ha1⟩ := ha
      obtain ⟨hlk0, hlk1⟩ := hlk
      clear ht0 hn htk
      go_wp2_with fail
      go_loopw [13, 9] (fun i t wq => ∃ (q : Nat) (left : Int) (l : List Int), q ≤ k ∧ i = .int .i64 q ∧ t = .int .u64 (a - left) ∧ left ≤ a ∧ Hid (Spreads (a - t0) ws (parts a all ws) q left l) ∧ Hid (wq.ownsRow w.heap.size 28 1 (.slice (some ⟨g, 0, none⟩) k c) k (nums l)) ∧ Hid (Below w.heap.size w wq)) (fun i _ _ => k - (intOf i).toNat)
      case atStart => exact ⟨0, a - t0, parts a all ws, Nat.zero_le _, rfl, by congr 1; omega, by omega, Lib.hid ⟨rfl, by simp, by simp, by omega, HTL.out⟩, HR, HW2⟩
      case round =>
        obtain ⟨q, left, l, hq, rfl, rfl, hla, HS, HO, HB⟩ := hrel
        have hl0 : 0 ≤ left := HS.out.2.2.2.1
        by_cases hqk : q < k
        · by_cases hz : left = 0
          · subst hz
            rw [Int.sub_zero]
            have hd : decide (a < a) = false := by simp
            go_wp2
            go_ret2
            exact ⟨_, rfl, by rw [HT0.out, HS.out.stop]; exact HO.out, HB.out⟩
          · have hc := HC.out q (by rw [HL.out]; exact hqk)
            obtain ⟨x, hx⟩ : ∃ x, ws.getD q 0 = x := ⟨_, rfl⟩
            rw [hx] at hc
            rw [← HB.out.cell (p := ⟨b, off + q, none⟩) hb] at hc
            have hl2 : a - left < a := by omega
            have hl3 : 0 ≤ a - left := by omega
            have hwx : Word x := hx ▸ HN.out.getD_word q
            have hbr : b < wr.heap.size := Nat.lt_of_lt_of_le hb HB.out.size
            obtain ⟨x0, x1⟩ := hwx
            by_cases hz2 : x = 0
            · subst hz2
              have HS2 := Lib.hid (HS.out.skip hz (by rw [HL.out]; exact hqk) (by simp [parts]; rw [HL.out]; exact hqk) hx)
              clear hz hx
              go_wp2
              go_roundw
              case rel => exact ⟨q + 1, left, l, by omega, by go_num, rfl, hla, HS2, HO, HB⟩
              case measure => simp [intOf]; omega
            · have b2 : (x != 0) = true := by simpa using hz2
              obtain ⟨p, hp⟩ : ∃ p, l.getD q 0 = p := ⟨_, rfl⟩
              have hll : l.length = k := by rw [HS.out.1]; simp [parts]; exact HL.out
              have hc2 : wr.cell? ⟨g, q, none⟩ = some (.int .u64 p) := by
                rw [HO.out.cellAt q (by omega)]
                simp [nums, ← hp, List.getD, show q < l.length by omega]
              have hf2 : wr.frozen? ⟨g, q, none⟩ = false := HO.out.frozenAt q
              obtain ⟨p0, p1⟩ := HS.out.at hz (by simp [parts]; rw [HL.out]; exact hqk) hp hP.out
              have HS2 := Lib.hid (HS.out.give hz (by rw [HL.out]; exact hqk) (by simp [parts]; rw [HL.out]; exact hqk) (by rw [hx]; exact hz2) hp)
              have HO2 := Lib.hid (HO.out.stored q (.int .u64 (p + 1))).1
              clear hp hz hz2 hx hll
              go_wp2
              go_roundw
              case rel => exact ⟨q + 1, left - 1, l.set q (p + 1), by omega, by go_num, by congr 1; omega, by omega, HS2, Lib.hid (by rw [← nums_set]; exact HO2.out), Lib.hid (HB.out.setCell hgb _)⟩
              case measure => simp [intOf]; omega
        · go_wp2
          go_ret2
          exact ⟨_, rfl, by rw [HT0.out, HS.out.end_ (by rw [HL.out]; omega) (by simp [parts]; rw [HL.out]; omega)]; exact HO.out, HB.out⟩
set_option maxHeartbeats 1000000 in
/-- tollhouseref02.Share: a slice of numbers and a number. -/
theorem rshare_any (a : Int) (s : Option Addr) (cap : Nat) (ws : List Int) (w : World) (ha : Word a) (hN : Nums w s ws) (hlen : ws.length ≤ 200) :
    Calls Try.prog 54 #[.int .u64 a, .slice s ws.length cap] w fun e w' => ∃ a' c', e = .returned (.tuple #[.slice a' (shareE a ws).2.length c', .int .i64 (shareE a ws).1]) ∧ Nums w' a' (shareE a ws).2 ∧ Below w.heap.size w w' := by
  by_cases h0 : sumE ws = 0
  · by_cases h1 : sumV ws = 0
    · have e : shareE a ws = (1, []) := by rw [shareE, if_neg (by simp [h0]), if_pos h1]
      rw [e]
      have hsum := rsum_any s cap ws w hN
      rw [h0, h1] at hsum
      have HSM := Lib.hid hsum
      clear hsum h0 h1 e
      go_enter Try.func54, Try.ntmps54
      go_wp2_with fail
      refine HSM.out.mono ?_
      rintro e w' ⟨rfl, rfl⟩
      go_wp2
      go_ret2
      exact ⟨none, 0, rfl, ⟨.inl rfl, by simp, by simp⟩, Below.refl _ _⟩
    · have hf := share_facts a ws ha hN.2.1 h0 h1
      have e : shareE a ws = (0, spr (a - tot (parts a (tot ws) ws)) ws (parts a (tot ws) ws)) := by rw [shareE, if_neg (by simp [h0]), if_neg h1, hf.1]
      have hne : ws ≠ [] := by rintro rfl; exact h1 rfl
      obtain ⟨b, off, rfl, hb, hc⟩ := hN.addr hne
      have hpos : 0 < ws.length := List.length_pos_iff.2 hne
      refine (rshare_core a (tot ws) b off cap ws.length ws w ha (Lib.hid hN) hb (Lib.hid rfl) hlen hpos (Lib.hid hc) (Lib.hid ⟨hf.1.symm, rfl⟩) hf.2.1 hf.2.2.1 (Lib.hid h0) (Lib.hid hN.2.1) (Lib.hid hf.2.2.2.1)).mono fun e' w' ⟨v, he, ho, hB⟩ => ?_
      have hl : (spr (a - tot (parts a (tot ws) ws)) ws (parts a (tot ws) ws)).length = ws.length := by rw [spr_length]; simp [parts]
      rw [← hl] at ho
      obtain ⟨a', c', rfl, hn⟩ := Nums.of_own ho hf.2.2.2.2.2.1 (by omega)
      rw [e]
      exact ⟨a', c', he, hn, hB⟩
  · have e : shareE a ws = (sumE ws, []) := by rw [shareE, if_pos h0]
    rw [e]
    have b0 : (sumE ws != 0) = true := by simpa using h0
    have HSM := Lib.hid (rsum_any s cap ws w hN)
    clear h0 e
    go_enter Try.func54, Try.ntmps54
    go_wp2_with fail
    refine HSM.out.mono ?_
    rintro e w' ⟨rfl, rfl⟩
    go_wp2
    go_ret2
    exact ⟨none, 0, rfl, ⟨.inl rfl, by simp, by simp⟩, Below.refl _ _⟩

end Go.Proofs.Ytneacogenjlhgaa
