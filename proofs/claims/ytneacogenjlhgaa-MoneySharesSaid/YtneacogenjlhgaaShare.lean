/-
  money.Share (function 53) and its spread (function 68): for every amount and every list of at most 200 weights the answer is the shares, or why there are none; memory that was there stays as it was.
-/
import Derived.Test.YtneacogenjlhgaaRefBack
import Derived.Test.YtneacogenjlhgaaShareNum
namespace Go.Proofs.Ytneacogenjlhgaa
open Go.RowKit
set_option linter.unusedVariables false

/-- Where the spreading stands: what is to come is what it would be from there. -/
def Spreads (left0 : Int) (ws ps : List Int) (k : Nat) (left : Int) (l : List Int) : Prop :=
  l.length = ps.length ∧ spr left0 ws ps = l.take k ++ spr left (ws.drop k) (l.drop k) ∧ l.drop k = ps.drop k ∧ 0 ≤ left ∧ left + tot ps ≤ 18446744073709551615

theorem spr_none (ws ps : List Int) : spr 0 ws ps = ps := by
  cases ws with
  | nil => simp [spr]
  | cons w r => cases ps <;> simp [spr]

theorem Spreads.stop {left0 : Int} {ws ps : List Int} {k : Nat} {l : List Int} (h : Spreads left0 ws ps k 0 l) : spr left0 ws ps = l := by
  rw [h.2.1, spr_none, List.take_append_drop]

theorem Spreads.end_ {left0 left : Int} {ws ps : List Int} {k : Nat} {l : List Int} (h : Spreads left0 ws ps k left l) (hw : ws.length ≤ k) (hk : ps.length ≤ k) : spr left0 ws ps = l := by
  rw [h.2.1, List.drop_eq_nil_of_le hw, List.drop_eq_nil_of_le (by rw [h.1]; exact hk), List.take_of_length_le (by rw [h.1]; exact hk)]
  simp [spr]

theorem Spreads.skip {left0 left : Int} {ws ps : List Int} {k : Nat} {l : List Int} (h : Spreads left0 ws ps k left l) (hl : left ≠ 0) (hw : k < ws.length) (hk : k < ps.length) (hx : ws.getD k 0 = 0) : Spreads left0 ws ps (k + 1) left l := by
  obtain ⟨a, b, c, d, e⟩ := h
  refine ⟨a, ?_, ?_, d, e⟩
  · rw [b, drop_getD ws k hw, drop_getD l k (by omega), hx, spr, if_neg hl, if_pos rfl, List.take_succ_eq_append_getElem (by omega), getD_at l k (by omega), List.append_assoc, List.singleton_append]
  · rw [← List.drop_drop, ← List.drop_drop, c]

theorem Spreads.at {left0 left : Int} {ws ps : List Int} {k : Nat} {l : List Int} {p : Int} (h : Spreads left0 ws ps k left l) (hl : left ≠ 0) (hk : k < ps.length) (hp : l.getD k 0 = p) (hps : ∀ n ∈ ps, 0 ≤ n) : 0 ≤ p ∧ p ≤ 18446744073709551614 := by
  obtain ⟨a, b, c, d, e⟩ := h
  have h1 := drop_getD l k (by omega)
  have h2 := drop_getD ps k hk
  rw [c, h2, hp] at h1
  have hpp : ps.getD k 0 = p := (List.cons.inj h1).1
  have hm : p ∈ ps := by rw [← hpp, getD_at ps k hk]; exact List.getElem_mem hk
  have := tot_mem_le ps hps p hm
  have := hps p hm
  omega

theorem take_set_same (l : List Int) (k : Nat) (v : Int) : (l.set k v).take k = l.take k := by
  apply List.ext_getElem?
  intro j
  simp only [List.getElem?_take]
  split
  · rw [List.getElem?_set_ne (by omega)]
  · rfl

theorem Spreads.give {left0 left : Int} {ws ps : List Int} {k : Nat} {l : List Int} {p : Int} (h : Spreads left0 ws ps k left l) (hl : left ≠ 0) (hw : k < ws.length) (hk : k < ps.length) (hx : ws.getD k 0 ≠ 0) (hp : l.getD k 0 = p) :
    Spreads left0 ws ps (k + 1) (left - 1) (l.set k (p + 1)) := by
  obtain ⟨a, b, c, d, e⟩ := h
  have hkl : k < l.length := by omega
  refine ⟨by simpa using a, ?_, ?_, by omega, by omega⟩
  · rw [b, drop_getD ws k hw, drop_getD l k hkl, spr, if_neg hl, if_neg hx, hp, List.take_succ_eq_append_getElem (by simpa using hkl), take_set_same]
    simp [List.drop_set]
  · rw [List.drop_set, if_pos (by omega), ← List.drop_drop, ← List.drop_drop, c]

theorem nums_set (l : List Int) (k : Nat) (v : Int) : (nums l).set k (.int .u64 v) = nums (l.set k v) := by
  simp [nums]

set_option maxRecDepth 100000 in
set_option maxHeartbeats 1000000 in
theorem spread_core (base g b off len cap : Nat) (ws ps : List Int) (left0 : Int) (w : World) (HW : Hid (Nums w (some ⟨b, off, none⟩) ws)) (hb : b < base) (hg : base ≤ g) (hbb : b < w.heap.size) (hlen : len ≤ 200)
    (HC : Hid (∀ i, i < ws.length → w.cell? ⟨b, off + i, none⟩ = some (.int .u64 (ws.getD i 0)))) (HL : Hid (ws.length = len ∧ ps.length = len)) (HP : Hid (∀ n ∈ ps, 0 ≤ n)) (h0 : 0 ≤ left0) (HT : Hid (left0 + tot ps ≤ 18446744073709551615))
    (HR : Hid (w.ownsRow base 28 1 (.slice (some ⟨g, 0, none⟩) len len) len (nums ps))) :
    Calls Try.prog 68 #[.slice (some ⟨g, 0, none⟩) len len, .int .u64 left0, .slice (some ⟨b, off, none⟩) len cap] w fun e w' => e = .returned (.tuple #[]) ∧ w'.ownsRow base 28 1 (.slice (some ⟨g, 0, none⟩) len len) len (nums (spr left0 ws ps)) ∧ Below base w w' := by
  have h1 : left0 ≤ 18446744073709551615 := by
    have := tot_nonneg ps HP.out
    have := HT.out
    omega
  go_enter Try.func68, Try.ntmps68
  go_wp2_with fail
  go_loopw [10, 1, 6, 7] (fun i t _ _ wr => ∃ (k : Nat) (left : Int) (l : List Int), k ≤ len ∧ i = .int .i64 k ∧ t = .int .u64 left ∧ Hid (Spreads left0 ws ps k left l) ∧ Hid (wr.ownsRow base 28 1 (.slice (some ⟨g, 0, none⟩) len len) len (nums l)) ∧ Hid (Below base w wr)) (fun i _ _ _ _ => len - (intOf i).toNat)
  case atStart => exact ⟨0, left0, ps, Nat.zero_le _, rfl, rfl, Lib.hid ⟨rfl, by simp, by simp, h0, HT.out⟩, HR, Lib.hid (Below.refl _ _)⟩
  case round =>
    obtain ⟨k, left, l, hk, rfl, rfl, HS, HO, HB⟩ := hrel
    by_cases hlt : k < len
    · have hc := HC.out k (by rw [HL.out.1]; exact hlt)
      obtain ⟨x, hx⟩ : ∃ x, ws.getD k 0 = x := ⟨_, rfl⟩
      rw [hx] at hc
      rw [← HB.out.cell (p := ⟨b, off + k, none⟩) hb] at hc
      have hwx : Word x := hx ▸ HW.out.getD_word k
      have hl0 : 0 ≤ left := HS.out.2.2.2.1
      have hl1 : left ≤ 18446744073709551615 := by
        have := tot_nonneg ps HP.out
        have := HS.out.2.2.2.2
        omega
      have HX := Lib.hid hx
      clear hx
      obtain ⟨x0, x1⟩ := hwx
      by_cases hz : left = 0
      · subst hz
        go_wp2
        exact bodyPost_ret (v := .tuple #[]) (by simp [results, Try.results68, go_sem]) rfl ⟨rfl, by rw [HS.out.stop]; exact HO.out, HB.out⟩
      · by_cases hz2 : x = 0
        · subst hz2
          have b1 : (left == 0) = false := by simpa using hz
          have HS2 := Lib.hid (HS.out.skip hz (by rw [HL.out.1]; exact hlt) (by rw [HL.out.2]; exact hlt) HX.out)
          clear hz
          go_wp2
          go_roundw
          case rel => exact ⟨k + 1, left, l, by omega, by go_num, rfl, HS2, HO, HB⟩
          case measure => simp [intOf]; omega
        · have b1 : (left == 0) = false := by simpa using hz
          have b2 : (x != 0) = true := by simpa using hz2
          obtain ⟨p, hp⟩ : ∃ p, l.getD k 0 = p := ⟨_, rfl⟩
          have hc2 : wr.cell? ⟨g, k, none⟩ = some (.int .u64 p) := by
            rw [HO.out.cellAt k (by omega)]
            simp [nums, ← hp, List.getD, show k < l.length by rw [HS.out.1, HL.out.2]; exact hlt]
          have hf2 : wr.frozen? ⟨g, k, none⟩ = false := HO.out.frozenAt k
          have hpb : 0 ≤ p ∧ p ≤ 18446744073709551614 := HS.out.at hz (by rw [HL.out.2]; exact hlt) hp HP.out
          obtain ⟨p0, p1⟩ := hpb
          have HPP := Lib.hid hp
          have HS2 := Lib.hid (HS.out.give hz (by rw [HL.out.1]; exact hlt) (by rw [HL.out.2]; exact hlt) (by rw [HX.out]; exact hz2) hp)
          have HO2 := Lib.hid (HO.out.stored k (.int .u64 (p + 1))).1
          have hl2 : 1 ≤ left := by omega
          clear hp hz hz2
          go_wp2
          go_roundw
          case rel => exact ⟨k + 1, left - 1, l.set k (p + 1), by omega, by go_num, rfl, HS2, Lib.hid (by rw [← nums_set]; exact HO2.out), Lib.hid (HB.out.setCell hg _)⟩
          case measure => simp [intOf]; omega
    · go_wp2
      go_end0
      exact ⟨rfl, by rw [HS.out.end_ (by rw [HL.out.1]; omega) (by rw [HL.out.2]; omega)]; exact HO.out, HB.out⟩
theorem partV_share (a x all : Int) (ha : Word a) (hx : 0 ≤ x) (hxa : x ≤ all) (hp : 0 < all) : partV a x all = a * x / all := by
  have h1 : a * x ≤ a * all := Int.mul_le_mul_of_nonneg_left hxa ha.1
  have h2 : a * x / all ≤ a := by
    have := Int.ediv_le_ediv hp h1
    rw [Int.mul_ediv_cancel _ (by omega)] at this
    exact this
  have e : partE a x all = 0 := by
    unfold partE
    rw [if_neg (by omega), if_pos (by have := ha.2; omega)]
  rw [partV, if_pos e]

theorem parts_take (a all : Int) (ws : List Int) (k : Nat) (hk : k < ws.length) : parts a all (ws.take (k + 1)) = parts a all (ws.take k) ++ [a * ws.getD k 0 / all] := by
  rw [List.take_succ_eq_append_getElem hk, getD_at ws k hk]
  simp only [parts, List.map_append, List.map_cons, List.map_nil]

theorem parts_left (a all : Int) (ws : List Int) (k : Nat) (ha : 0 ≤ a) (hall : 0 < all) (hw : ∀ n ∈ ws, 0 ≤ n) (h : 0 ≤ a - tot (parts a all ws)) : tot (parts a all (ws.take k)) ≤ a ∧ 0 ≤ tot (parts a all (ws.take k)) := by
  have e : parts a all ws = parts a all (ws.take k) ++ parts a all (ws.drop k) := by
    rw [parts, parts, parts, ← List.map_append, List.take_append_drop]
  have h1 := tot_nonneg (parts a all (ws.drop k)) (parts_nonneg a all _ ha hall fun n hn => hw n (List.mem_of_mem_drop hn))
  have h2 := tot_nonneg (parts a all (ws.take k)) (parts_nonneg a all _ ha hall fun n hn => hw n (List.mem_of_mem_take hn))
  rw [e, tot_append] at h
  omega

theorem set_part (q : List Int) (m : Nat) (v : Int) (n : Nat) (hq : q.length = n) : (nums (q ++ List.replicate (m + 1) 0)).set n (.int .u64 v) = nums (q ++ [v] ++ List.replicate m 0) := by
  subst hq
  rw [nums_set]
  congr 1
  rw [List.set_append_right _ _ (Nat.le_refl _), Nat.sub_self, List.replicate_succ, List.set_cons_zero]
  simp

set_option maxRecDepth 100000 in
set_option maxHeartbeats 2000000 in
theorem share_core (a all : Int) (b off cap len : Nat) (ws : List Int) (w : World) (ha : Word a) (HN : Hid (Nums w (some ⟨b, off, none⟩) ws)) (hb : b < w.heap.size) (HL : Hid (ws.length = len)) (hlen : len ≤ 200)
    (HC : Hid (∀ i, i < ws.length → w.cell? ⟨b, off + i, none⟩ = some (.int .u64 (ws.getD i 0)))) (HA : Hid (all = sumV ws ∧ all = tot ws)) (h0 : 0 < all) (h1 : all ≤ 18446744073709551615) (HE : Hid (sumE ws = 0)) (HW : Hid (∀ n ∈ ws, Word n)) (HT : Hid (0 ≤ a - tot (parts a all ws))) :
    Calls Try.prog 53 #[.int .u64 a, .slice (some ⟨b, off, none⟩) len cap] w fun e w' => ∃ v, e = .returned (.tuple #[v, .int .i64 0]) ∧ w'.ownsRow w.heap.size 28 1 v len (nums (spr (a - tot (parts a all ws)) ws (parts a all ws))) ∧ Below w.heap.size w w' := by
  obtain ⟨i0, hi, hz0, hz1, hz2⟩ := info_parts u64_info
  have hsum := sum_any (some ⟨b, off, none⟩) cap ws w HN.out
  rw [HL.out, ← HA.out.1, HE.out] at hsum
  have HSM := Lib.hid hsum
  clear hsum
  have b1 : (all == 0) = false := by simp; omega
  have hall : Word all := ⟨by omega, h1⟩
  go_enter Try.func53, Try.ntmps53
  go_wp2_with fail
  refine HSM.out.mono ?_
  rintro e w' ⟨rfl, rfl⟩
  go_wp2_with (at_make; refine wpList_make_full _ rfl (.tmp 25) (.tmp 25) 23 rfl w.heap.size 28 i0 (.int .u64 0) 1 Try.underlying23 hi hz0 hz1 .i64 .i64 _ _ len rfl rfl ?c1 ?c2 ?c3 ?c4 ?c5 ?_)
  case c1 => rfl
  case c2 => rfl
  case c3 => rw [hz2]; omega
  case c4 => unfold maxLen; omega
  case c5 => exact Nat.le_refl _
  intro w1 hown hg
  have hB : Below w.heap.size w w1 := (Below.refl _ _).grown hg (Nat.le_refl _) (by simp)
  have HO := Lib.hid hown
  have HB := Lib.hid hB
  clear hown hB hg
  go_wp2_with fail
  go_loopw [30, 9, 10, 11, 12, 13] (fun i t _ _ _ _ wr => ∃ (k : Nat), k ≤ len ∧ i = .int .i64 k ∧ t = .int .u64 (a - tot (parts a all (ws.take k))) ∧ Hid (wr.ownsRow w.heap.size 28 1 (.slice (some ⟨w.heap.size, 0, none⟩) len len) len (nums (parts a all (ws.take k) ++ List.replicate (len - k) 0))) ∧ Hid (Below w.heap.size w wr)) (fun i _ _ _ _ _ _ => len - (intOf i).toNat)
  case atStart =>
    refine ⟨0, Nat.zero_le _, rfl, ?_, Lib.hid ?_, HB⟩
    · simp [parts, tot]
    · have := HO.out
      rw [toList_madeCells_one] at this
      have e : nums (parts a all (ws.take 0) ++ List.replicate (len - 0) 0) = List.replicate len (Value.int .u64 0) := by simp [nums, parts]
      rw [e]
      exact this
  case round =>
    obtain ⟨k, hk, rfl, rfl, HR, HW2⟩ := hrel
    clear HO HB
    have hn : ∀ n ∈ ws, 0 ≤ n := fun n hn => (HW.out n hn).1
    have hlk := parts_left a all ws k ha.1 h0 hn HT.out
    obtain ⟨t0, ht0⟩ : ∃ t, tot (parts a all (ws.take k)) = t := ⟨_, rfl⟩
    rw [ht0] at hlk ⊢
    by_cases hlt : k < len
    · have hkw : k < ws.length := by rw [HL.out]; exact hlt
      have hc := HC.out k hkw
      obtain ⟨x, hx⟩ : ∃ x, ws.getD k 0 = x := ⟨_, rfl⟩
      rw [hx] at hc
      rw [← HW2.out.cell (p := ⟨b, off + k, none⟩) hb] at hc
      have hwx : Word x := hx ▸ HN.out.getD_word k
      have hxa : x ≤ all := by
        rw [HA.out.2]
        refine tot_mem_le ws hn x ?_
        rw [← hx, getD_at ws k hkw]
        exact List.getElem_mem hkw
      have hpv := partV_share a x all ha hwx.1 hxa h0
      have hpt := parts_take a all ws k hkw
      rw [hx, ← hpv] at hpt
      have hl2 := parts_left a all ws (k + 1) ha.1 h0 hn HT.out
      rw [hpt, tot_append, ht0] at hl2
      simp only [tot] at hl2
      have hpw := partV_word ha hwx hall
      obtain ⟨p, hp⟩ : ∃ p, partV a x all = p := ⟨_, rfl⟩
      have hc2 : wr.cell? ⟨w.heap.size, k, none⟩ = some (.int .u64 0) := by
        rw [HR.out.cellAt k (by omega)]
        have : (parts a all (ws.take k)).length = k := by simp [parts]; omega
        simp [nums, List.getElem?_append, this, List.getElem?_replicate]
        omega
      have hf2 : wr.frozen? ⟨w.heap.size, k, none⟩ = false := HR.out.frozenAt k
      have HST := Lib.hid (HR.out.stored k (.int .u64 p)).1
      have HPT : Hid (parts a all (ws.take (k + 1)) = parts a all (ws.take k) ++ [p]) := Lib.hid (by rw [hpt, hp])
      have HT0 := Lib.hid ht0
      have HPV := Lib.hid hp
      rw [hp] at hl2 hpw
      obtain ⟨hpw0, hpw1⟩ := hpw
      obtain ⟨ha0, ha1⟩ := ha
      obtain ⟨hlk0, hlk1⟩ := hlk
      obtain ⟨hl20, hl21⟩ := hl2
      have hset : ∀ (w : World) (n : Nat) (a : Addr) (v : Value), (w.drewN n).setCell a v = (w.setCell a v).drewN n := fun _ _ _ _ => rfl
      clear hx hpv hpt hn ht0 hp hkw
      go_wp2_with (go_at_call 43; refine (part_any _ _ _ _ ⟨ha0, ha1⟩ hwx hall).mono ?_; rw [HPV.out]; rintro e w' ⟨rfl, n, rfl⟩)
      go_roundw
      case rel =>
        refine ⟨k + 1, by omega, by go_num, ?_, Lib.hid ?_, Lib.hid (below_drewN (HW2.out.setCell (Nat.le_refl _) _) _)⟩
        · rw [HPT.out, tot_append, HT0.out]
          simp only [tot]
          congr 1
          omega
        · refine own_below ?_ (below_drewN (Below.refl _ _) _)
          have := HST.out
          rw [show len - k = (len - (k + 1)) + 1 by omega, set_part _ _ _ _ (by simp [parts]; rw [HL.out]; omega)] at this
          rw [HPT.out]
          exact this
      case measure => simp [intOf]; omega
    · obtain rfl : k = len := by omega
      have htk : ws.take k = ws := List.take_of_length_le (by rw [HL.out]; exact Nat.le_refl _)
      rw [htk] at ht0 HR
      rw [Nat.sub_self, List.replicate_zero, List.append_nil] at HR
      have HT0 := Lib.hid ht0
      have hleft : 0 ≤ a - t0 := by omega
      have hB1 := HW2.out
      have hbr : b < wr.heap.size := Nat.lt_of_lt_of_le hb HW2.out.size
      have key := spread_core w.heap.size w.heap.size b off k cap ws (parts a all ws) (a - t0) wr (Lib.hid (HN.out.below HW2.out)) hb (Nat.le_refl _) hbr hlen
        (Lib.hid fun i hi => by rw [HW2.out.cell (p := ⟨b, off + i, none⟩) hb]; exact HC.out i hi) (Lib.hid ⟨HL.out, by simp [parts]; exact HL.out⟩) (Lib.hid (parts_nonneg a all ws ha.1 h0 hn)) hleft (Lib.hid (by rw [ht0]; have := ha.2; omega)) HR
      have KEY := Lib.hid key
      clear key ht0 hn htk hB1 hlk
      go_wp2_with fail
      refine KEY.out.mono ?_
      rintro e w2 ⟨rfl, hown2, hB2⟩
      have HO2 := Lib.hid hown2
      have HB2 := Lib.hid (HW2.out.trans hB2)
      clear hown2 hB2
      go_wp2
      go_ret2
      exact ⟨_, rfl, by rw [HT0.out]; exact HO2.out, HB2.out⟩

theorem Nums.addr {w : World} {a : Option Addr} {xs : List Int} (h : Nums w a xs) (hx : xs ≠ []) : ∃ b off, a = some ⟨b, off, none⟩ ∧ b < w.heap.size ∧ ∀ i, i < xs.length → w.cell? ⟨b, off + i, none⟩ = some (.int .u64 (xs.getD i 0)) := by
  rcases h.1 with h1 | h1
  · exact absurd h1 hx
  · exact h1

set_option maxHeartbeats 1000000 in
/-- money.Share: a slice of numbers and a number. -/
theorem share_any (a : Int) (s : Option Addr) (cap : Nat) (ws : List Int) (w : World) (ha : Word a) (hN : Nums w s ws) (hlen : ws.length ≤ 200) :
    Calls Try.prog 53 #[.int .u64 a, .slice s ws.length cap] w fun e w' => ∃ a' c', e = .returned (.tuple #[.slice a' (shareE a ws).2.length c', .int .i64 (shareE a ws).1]) ∧ Nums w' a' (shareE a ws).2 ∧ Below w.heap.size w w' := by
  by_cases h0 : sumE ws = 0
  · by_cases h1 : sumV ws = 0
    · have e : shareE a ws = (1, []) := by rw [shareE, if_neg (by simp [h0]), if_pos h1]
      rw [e]
      have hsum := sum_any s cap ws w hN
      rw [h0, h1] at hsum
      have HSM := Lib.hid hsum
      clear hsum h0 h1 e
      go_enter Try.func53, Try.ntmps53
      go_wp2_with fail
      refine HSM.out.mono ?_
      rintro e w' ⟨rfl, rfl⟩
      go_wp2
      go_ret2
      exact ⟨none, 0, rfl, ⟨.inl rfl, by simp, by simp⟩, Below.refl _ _⟩
    · have hf := share_facts a ws ha hN.2.1 h0 h1
      have e : shareE a ws = (0, spr (a - tot (parts a (tot ws) ws)) ws (parts a (tot ws) ws)) := by rw [shareE, if_neg (by simp [h0]), if_neg h1, hf.1]
      have hne : ws ≠ [] := by rintro rfl; exact h1 rfl
      obtain ⟨b, off, rfl, hb, hc⟩ := hN.addr hne
      refine (share_core a (tot ws) b off cap ws.length ws w ha (Lib.hid hN) hb (Lib.hid rfl) hlen (Lib.hid hc) (Lib.hid ⟨hf.1.symm, rfl⟩) hf.2.1 hf.2.2.1 (Lib.hid h0) (Lib.hid hN.2.1) (Lib.hid hf.2.2.2.1)).mono fun e' w' ⟨v, he, ho, hB⟩ => ?_
      have hl : (spr (a - tot (parts a (tot ws) ws)) ws (parts a (tot ws) ws)).length = ws.length := by rw [spr_length]; simp [parts]
      rw [← hl] at ho
      obtain ⟨a', c', rfl, hn⟩ := Nums.of_own ho hf.2.2.2.2.2.1 (by omega)
      rw [e]
      exact ⟨a', c', he, hn, hB⟩
  · have e : shareE a ws = (sumE ws, []) := by rw [shareE, if_pos h0]
    rw [e]
    have b0 : (sumE ws != 0) = true := by simpa using h0
    have HSM := Lib.hid (sum_any s cap ws w hN)
    clear h0 e
    go_enter Try.func53, Try.ntmps53
    go_wp2_with fail
    refine HSM.out.mono ?_
    rintro e w' ⟨rfl, rfl⟩
    go_wp2
    go_ret2
    exact ⟨none, 0, rfl, ⟨.inl rfl, by simp, by simp⟩, Below.refl _ _⟩

end Go.Proofs.Ytneacogenjlhgaa
