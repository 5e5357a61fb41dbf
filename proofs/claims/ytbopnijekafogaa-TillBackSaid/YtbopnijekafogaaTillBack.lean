/-
  tollhouselaw09.TillBack returns true for every input: what is kept and given back, or moved there and back, leaves all accounts as they were, and nothing kept; nothing that was there is written.
-/
import Derived.Test.YtbopnijekafogaaRows
import Derived.Test.YtbopnijekafogaaTillP
namespace Go.Proofs.Ytbopnijekafogaa.tillBack
open Go.ChangeShapes Go.WideShapes Go.ChangeAt Go.RowKit
set_option linter.unusedVariables false

set_option maxRecDepth 100000 in
set_option maxHeartbeats 2000000 in
theorem way_km (a : Option Addr) (cap len : Nat) (xs : List Int) (who to n : Int) (w : World) (hlen : xs.length = len) (hs : len ≤ 16) (hN : Nums w a xs) (hE : sumE xs = 0) (hn : Word n)
    (hk : keepE (fresh xs) who n = 0) (hm : moveE (fresh xs) who to n = 0) :
    Calls Try.prog 4 #[.slice a len cap, .int .i64 who, .int .i64 to, .int .u64 n] w fun e w' => e = .returned (.bool true) ∧ Below w.heap.size w w' := by
  have HN := Lib.hid hN
  have HL := Lib.hid hlen
  have HNW := Lib.hid (new_ok a cap len xs w hlen hs hN hE)
  have HSM := Lib.hid (fun X (h : Nums X a xs) => rsum_any a cap xs X h)
  rw [hlen, hE] at HSM
  have HK := Lib.hid hk
  have HM := Lib.hid hm
  have HEE := Lib.hid hE
  have HKG := Lib.hid (fun hok => keep_give (fresh xs) who n hok hn)
  have HMB := Lib.hid (move_back xs who to n hN.2.1 hE hn)
  clear hk hm hE hN hlen
  generalize sumV xs = sv at HSM
  go_enter Try.func4, Try.ntmps4
  go_wp2_with fail
  refine HNW.out.mono ?_
  rintro e w1 ⟨b, g, rfl, hA, hB, hb, hg⟩
  replace hA : AtT w1 b g (fresh xs) 0 := hA
  have HB := Lib.hid hB
  have HA := Lib.hid hA
  clear hA hB HNW
  go_wp2_with fail
  refine (HSM.out _ (HN.out.below HB.out)).mono ?_
  rintro e w' ⟨rfl, rfl⟩
  clear HSM
  go_wp2_with fail
  have HC := Lib.hid (keep_any b g _ 0 who n w1 HA.out hn)
  rw [HK.out] at HC
  refine HC.out.mono ?_
  rintro e w2 ⟨rfl, hA, hO⟩
  have HG := Lib.hid (give_any b g _ _ who n w2 hA hn)
  obtain ⟨g1, g2, g3⟩ := HKG.out HA.out.ok HK.out
  rw [g1, g2, g3] at HG
  replace HB := Lib.hid (HB.out.trans (hO.below hb hg HB.out.size))
  clear hA hO g1 g2 g3 HC HA
  go_wp2_with fail
  refine HG.out.mono ?_
  rintro e w3 ⟨rfl, hA, hO⟩
  replace HB := Lib.hid (HB.out.trans (hO.below hb hg HB.out.size))
  have HA := Lib.hid hA
  clear hA hO HG
  clear HKG HK
  go_wp2_with fail
  have HC := Lib.hid (move_any b g _ 0 who to n w3 HA.out hn)
  rw [HM.out] at HC
  refine HC.out.mono ?_
  rintro e w4 ⟨rfl, hA, hO⟩
  have HG := Lib.hid (move_any b g _ 0 to who n w4 hA hn)
  obtain ⟨g1, g2⟩ := HMB.out HM.out
  rw [g1, g2] at HG
  replace HB := Lib.hid (HB.out.trans (hO.below hb hg HB.out.size))
  clear hA hO g1 g2 HC HA
  go_wp2_with fail
  refine HG.out.mono ?_
  rintro e w5 ⟨rfl, hA, hO⟩
  replace HB := Lib.hid (HB.out.trans (hO.below hb hg HB.out.size))
  have HA := Lib.hid hA
  clear hA hO HG
  clear HMB HM HEE hn hb hg
  go_wp2
  go_loop [13, 14, 58] (fun _ _ i => ∃ k : Nat, k ≤ len ∧ i = .int .i64 k) (fun _ _ i => len - (intOf i).toNat)
  case atStart => exact ⟨0, Nat.zero_le _, rfl⟩
  case round =>
    obtain ⟨k, hk, rfl⟩ := hrel
    by_cases hlt : k < len
    · have hk' : k < xs.length := by rw [HL.out]; exact hlt
      have HH := Lib.hid (has_any b g _ 0 k w5 HA.out)
      rw [show hasV (fresh xs) k = xs.getD k 0 by unfold hasV; rw [if_pos ⟨by omega, by rw [fresh_length]; omega⟩, Int.toNat_natCast, fresh_getD]] at HH
      rcases HN.out.1 with h0 | ⟨b0, off, rfl, hb0, hcx⟩
      · exfalso; rw [h0] at hk'; simp at hk'
      · have hx := hcx k hk'
        rw [← HB.out.cell (p := ⟨b0, off + k, none⟩) hb0] at hx
        obtain ⟨x, hxe⟩ : ∃ x, xs.getD k 0 = x := ⟨_, rfl⟩
        rw [hxe] at hx HH
        have bx : (x != x) = false := by simp
        clear hcx hxe hk'
        go_wp2_with fail
        refine HH.out.mono ?_
        rintro e w' ⟨rfl, rfl⟩
        go_wp2
        go_round
        case rel => exact ⟨k + 1, by omega, by go_num⟩
        case measure => simp [intOf] <;> omega
    · go_wp2_with fail
      refine (awake_any _).mono ?_
      rintro e w6 ⟨rfl, h6⟩
      have HKP := Lib.hid (kept_any b g _ 0 w6 (HA.out.keep h6))
      have H6 := Lib.hid (HB.out.trans (h6.mono HB.out.size))
      clear h6
      go_wp2_with fail
      refine HKP.out.mono ?_
      rintro e w' ⟨rfl, rfl⟩
      go_wp2
      go_ret
      exact ⟨rfl, H6.out⟩

set_option maxRecDepth 100000 in
set_option maxHeartbeats 2000000 in
theorem way_kn (a : Option Addr) (cap len : Nat) (xs : List Int) (who to n : Int) (w : World) (hlen : xs.length = len) (hs : len ≤ 16) (hN : Nums w a xs) (hE : sumE xs = 0) (hn : Word n)
    (hk : keepE (fresh xs) who n = 0) (hm : moveE (fresh xs) who to n ≠ 0) :
    Calls Try.prog 4 #[.slice a len cap, .int .i64 who, .int .i64 to, .int .u64 n] w fun e w' => e = .returned (.bool true) ∧ Below w.heap.size w w' := by
  have HN := Lib.hid hN
  have HL := Lib.hid hlen
  have HNW := Lib.hid (new_ok a cap len xs w hlen hs hN hE)
  have HSM := Lib.hid (fun X (h : Nums X a xs) => rsum_any a cap xs X h)
  rw [hlen, hE] at HSM
  have HK := Lib.hid hk
  have HM := Lib.hid hm
  have HEE := Lib.hid hE
  have HKG := Lib.hid (fun hok => keep_give (fresh xs) who n hok hn)
  have HMB := Lib.hid (move_back xs who to n hN.2.1 hE hn)
  clear hk hm hE hN hlen
  generalize sumV xs = sv at HSM
  go_enter Try.func4, Try.ntmps4
  go_wp2_with fail
  refine HNW.out.mono ?_
  rintro e w1 ⟨b, g, rfl, hA, hB, hb, hg⟩
  replace hA : AtT w1 b g (fresh xs) 0 := hA
  have HB := Lib.hid hB
  have HA := Lib.hid hA
  clear hA hB HNW
  go_wp2_with fail
  refine (HSM.out _ (HN.out.below HB.out)).mono ?_
  rintro e w' ⟨rfl, rfl⟩
  clear HSM
  go_wp2_with fail
  have HC := Lib.hid (keep_any b g _ 0 who n w1 HA.out hn)
  rw [HK.out] at HC
  refine HC.out.mono ?_
  rintro e w2 ⟨rfl, hA, hO⟩
  have HG := Lib.hid (give_any b g _ _ who n w2 hA hn)
  obtain ⟨g1, g2, g3⟩ := HKG.out HA.out.ok HK.out
  rw [g1, g2, g3] at HG
  replace HB := Lib.hid (HB.out.trans (hO.below hb hg HB.out.size))
  clear hA hO g1 g2 g3 HC HA
  go_wp2_with fail
  refine HG.out.mono ?_
  rintro e w3 ⟨rfl, hA, hO⟩
  replace HB := Lib.hid (HB.out.trans (hO.below hb hg HB.out.size))
  have HA := Lib.hid hA
  clear hA hO HG
  clear HKG HK
  go_wp2_with fail
  have HC := Lib.hid (move_any b g _ 0 who to n w3 HA.out hn)
  rw [show moveL (fresh xs) who to n = fresh xs from if_neg HM.out] at HC
  have b1 : (moveE (fresh xs) who to n == 0) = false := by simpa using HM.out
  generalize moveE (fresh xs) who to n = me at HC b1
  refine HC.out.mono ?_
  rintro e w5 ⟨rfl, hA, hO⟩
  replace HB := Lib.hid (HB.out.trans (hO.below hb hg HB.out.size))
  replace HA := Lib.hid hA
  clear hA hO HC
  clear HMB HM HEE hn hb hg
  go_wp2
  go_loop [13, 14, 58] (fun _ _ i => ∃ k : Nat, k ≤ len ∧ i = .int .i64 k) (fun _ _ i => len - (intOf i).toNat)
  case atStart => exact ⟨0, Nat.zero_le _, rfl⟩
  case round =>
    obtain ⟨k, hk, rfl⟩ := hrel
    by_cases hlt : k < len
    · have hk' : k < xs.length := by rw [HL.out]; exact hlt
      have HH := Lib.hid (has_any b g _ 0 k w5 HA.out)
      rw [show hasV (fresh xs) k = xs.getD k 0 by unfold hasV; rw [if_pos ⟨by omega, by rw [fresh_length]; omega⟩, Int.toNat_natCast, fresh_getD]] at HH
      rcases HN.out.1 with h0 | ⟨b0, off, rfl, hb0, hcx⟩
      · exfalso; rw [h0] at hk'; simp at hk'
      · have hx := hcx k hk'
        rw [← HB.out.cell (p := ⟨b0, off + k, none⟩) hb0] at hx
        obtain ⟨x, hxe⟩ : ∃ x, xs.getD k 0 = x := ⟨_, rfl⟩
        rw [hxe] at hx HH
        have bx : (x != x) = false := by simp
        clear hcx hxe hk'
        go_wp2_with fail
        refine HH.out.mono ?_
        rintro e w' ⟨rfl, rfl⟩
        go_wp2
        go_round
        case rel => exact ⟨k + 1, by omega, by go_num⟩
        case measure => simp [intOf] <;> omega
    · go_wp2_with fail
      refine (awake_any _).mono ?_
      rintro e w6 ⟨rfl, h6⟩
      have HKP := Lib.hid (kept_any b g _ 0 w6 (HA.out.keep h6))
      have H6 := Lib.hid (HB.out.trans (h6.mono HB.out.size))
      clear h6
      go_wp2_with fail
      refine HKP.out.mono ?_
      rintro e w' ⟨rfl, rfl⟩
      go_wp2
      go_ret
      exact ⟨rfl, H6.out⟩

set_option maxRecDepth 100000 in
set_option maxHeartbeats 2000000 in
theorem way_nm (a : Option Addr) (cap len : Nat) (xs : List Int) (who to n : Int) (w : World) (hlen : xs.length = len) (hs : len ≤ 16) (hN : Nums w a xs) (hE : sumE xs = 0) (hn : Word n)
    (hk : keepE (fresh xs) who n ≠ 0) (hm : moveE (fresh xs) who to n = 0) :
    Calls Try.prog 4 #[.slice a len cap, .int .i64 who, .int .i64 to, .int .u64 n] w fun e w' => e = .returned (.bool true) ∧ Below w.heap.size w w' := by
  have HN := Lib.hid hN
  have HL := Lib.hid hlen
  have HNW := Lib.hid (new_ok a cap len xs w hlen hs hN hE)
  have HSM := Lib.hid (fun X (h : Nums X a xs) => rsum_any a cap xs X h)
  rw [hlen, hE] at HSM
  have HK := Lib.hid hk
  have HM := Lib.hid hm
  have HEE := Lib.hid hE
  have HKG := Lib.hid (fun hok => keep_give (fresh xs) who n hok hn)
  have HMB := Lib.hid (move_back xs who to n hN.2.1 hE hn)
  clear hk hm hE hN hlen
  generalize sumV xs = sv at HSM
  go_enter Try.func4, Try.ntmps4
  go_wp2_with fail
  refine HNW.out.mono ?_
  rintro e w1 ⟨b, g, rfl, hA, hB, hb, hg⟩
  replace hA : AtT w1 b g (fresh xs) 0 := hA
  have HB := Lib.hid hB
  have HA := Lib.hid hA
  clear hA hB HNW
  go_wp2_with fail
  refine (HSM.out _ (HN.out.below HB.out)).mono ?_
  rintro e w' ⟨rfl, rfl⟩
  clear HSM
  go_wp2_with fail
  have HC := Lib.hid (keep_any b g _ 0 who n w1 HA.out hn)
  rw [show keepL (fresh xs) who n = fresh xs from if_neg HK.out, show keepK (fresh xs) 0 who n = 0 from if_neg HK.out] at HC
  have b0 : (keepE (fresh xs) who n == 0) = false := by simpa using HK.out
  generalize keepE (fresh xs) who n = ke at HC b0
  refine HC.out.mono ?_
  rintro e w3 ⟨rfl, hA, hO⟩
  replace HB := Lib.hid (HB.out.trans (hO.below hb hg HB.out.size))
  replace HA := Lib.hid hA
  clear hA hO HC
  clear HKG HK
  go_wp2_with fail
  have HC := Lib.hid (move_any b g _ 0 who to n w3 HA.out hn)
  rw [HM.out] at HC
  refine HC.out.mono ?_
  rintro e w4 ⟨rfl, hA, hO⟩
  have HG := Lib.hid (move_any b g _ 0 to who n w4 hA hn)
  obtain ⟨g1, g2⟩ := HMB.out HM.out
  rw [g1, g2] at HG
  replace HB := Lib.hid (HB.out.trans (hO.below hb hg HB.out.size))
  clear hA hO g1 g2 HC HA
  go_wp2_with fail
  refine HG.out.mono ?_
  rintro e w5 ⟨rfl, hA, hO⟩
  replace HB := Lib.hid (HB.out.trans (hO.below hb hg HB.out.size))
  have HA := Lib.hid hA
  clear hA hO HG
  clear HMB HM HEE hn hb hg
  go_wp2
  go_loop [13, 14, 58] (fun _ _ i => ∃ k : Nat, k ≤ len ∧ i = .int .i64 k) (fun _ _ i => len - (intOf i).toNat)
  case atStart => exact ⟨0, Nat.zero_le _, rfl⟩
  case round =>
    obtain ⟨k, hk, rfl⟩ := hrel
    by_cases hlt : k < len
    · have hk' : k < xs.length := by rw [HL.out]; exact hlt
      have HH := Lib.hid (has_any b g _ 0 k w5 HA.out)
      rw [show hasV (fresh xs) k = xs.getD k 0 by unfold hasV; rw [if_pos ⟨by omega, by rw [fresh_length]; omega⟩, Int.toNat_natCast, fresh_getD]] at HH
      rcases HN.out.1 with h0 | ⟨b0, off, rfl, hb0, hcx⟩
      · exfalso; rw [h0] at hk'; simp at hk'
      · have hx := hcx k hk'
        rw [← HB.out.cell (p := ⟨b0, off + k, none⟩) hb0] at hx
        obtain ⟨x, hxe⟩ : ∃ x, xs.getD k 0 = x := ⟨_, rfl⟩
        rw [hxe] at hx HH
        have bx : (x != x) = false := by simp
        clear hcx hxe hk'
        go_wp2_with fail
        refine HH.out.mono ?_
        rintro e w' ⟨rfl, rfl⟩
        go_wp2
        go_round
        case rel => exact ⟨k + 1, by omega, by go_num⟩
        case measure => simp [intOf] <;> omega
    · go_wp2_with fail
      refine (awake_any _).mono ?_
      rintro e w6 ⟨rfl, h6⟩
      have HKP := Lib.hid (kept_any b g _ 0 w6 (HA.out.keep h6))
      have H6 := Lib.hid (HB.out.trans (h6.mono HB.out.size))
      clear h6
      go_wp2_with fail
      refine HKP.out.mono ?_
      rintro e w' ⟨rfl, rfl⟩
      go_wp2
      go_ret
      exact ⟨rfl, H6.out⟩

set_option maxRecDepth 100000 in
set_option maxHeartbeats 2000000 in
theorem way_nn (a : Option Addr) (cap len : Nat) (xs : List Int) (who to n : Int) (w : World) (hlen : xs.length = len) (hs : len ≤ 16) (hN : Nums w a xs) (hE : sumE xs = 0) (hn : Word n)
    (hk : keepE (fresh xs) who n ≠ 0) (hm : moveE (fresh xs) who to n ≠ 0) :
    Calls Try.prog 4 #[.slice a len cap, .int .i64 who, .int .i64 to, .int .u64 n] w fun e w' => e = .returned (.bool true) ∧ Below w.heap.size w w' := by
  have HN := Lib.hid hN
  have HL := Lib.hid hlen
  have HNW := Lib.hid (new_ok a cap len xs w hlen hs hN hE)
  have HSM := Lib.hid (fun X (h : Nums X a xs) => rsum_any a cap xs X h)
  rw [hlen, hE] at HSM
  have HK := Lib.hid hk
  have HM := Lib.hid hm
  have HEE := Lib.hid hE
  have HKG := Lib.hid (fun hok => keep_give (fresh xs) who n hok hn)
  have HMB := Lib.hid (move_back xs who to n hN.2.1 hE hn)
  clear hk hm hE hN hlen
  generalize sumV xs = sv at HSM
  go_enter Try.func4, Try.ntmps4
  go_wp2_with fail
  refine HNW.out.mono ?_
  rintro e w1 ⟨b, g, rfl, hA, hB, hb, hg⟩
  replace hA : AtT w1 b g (fresh xs) 0 := hA
  have HB := Lib.hid hB
  have HA := Lib.hid hA
  clear hA hB HNW
  go_wp2_with fail
  refine (HSM.out _ (HN.out.below HB.out)).mono ?_
  rintro e w' ⟨rfl, rfl⟩
  clear HSM
  go_wp2_with fail
  have HC := Lib.hid (keep_any b g _ 0 who n w1 HA.out hn)
  rw [show keepL (fresh xs) who n = fresh xs from if_neg HK.out, show keepK (fresh xs) 0 who n = 0 from if_neg HK.out] at HC
  have b0 : (keepE (fresh xs) who n == 0) = false := by simpa using HK.out
  generalize keepE (fresh xs) who n = ke at HC b0
  refine HC.out.mono ?_
  rintro e w3 ⟨rfl, hA, hO⟩
  replace HB := Lib.hid (HB.out.trans (hO.below hb hg HB.out.size))
  replace HA := Lib.hid hA
  clear hA hO HC
  clear HKG HK
  go_wp2_with fail
  have HC := Lib.hid (move_any b g _ 0 who to n w3 HA.out hn)
  rw [show moveL (fresh xs) who to n = fresh xs from if_neg HM.out] at HC
  have b1 : (moveE (fresh xs) who to n == 0) = false := by simpa using HM.out
  generalize moveE (fresh xs) who to n = me at HC b1
  refine HC.out.mono ?_
  rintro e w5 ⟨rfl, hA, hO⟩
  replace HB := Lib.hid (HB.out.trans (hO.below hb hg HB.out.size))
  replace HA := Lib.hid hA
  clear hA hO HC
  clear HMB HM HEE hn hb hg
  go_wp2
  go_loop [13, 14, 58] (fun _ _ i => ∃ k : Nat, k ≤ len ∧ i = .int .i64 k) (fun _ _ i => len - (intOf i).toNat)
  case atStart => exact ⟨0, Nat.zero_le _, rfl⟩
  case round =>
    obtain ⟨k, hk, rfl⟩ := hrel
    by_cases hlt : k < len
    · have hk' : k < xs.length := by rw [HL.out]; exact hlt
      have HH := Lib.hid (has_any b g _ 0 k w5 HA.out)
      rw [show hasV (fresh xs) k = xs.getD k 0 by unfold hasV; rw [if_pos ⟨by omega, by rw [fresh_length]; omega⟩, Int.toNat_natCast, fresh_getD]] at HH
      rcases HN.out.1 with h0 | ⟨b0, off, rfl, hb0, hcx⟩
      · exfalso; rw [h0] at hk'; simp at hk'
      · have hx := hcx k hk'
        rw [← HB.out.cell (p := ⟨b0, off + k, none⟩) hb0] at hx
        obtain ⟨x, hxe⟩ : ∃ x, xs.getD k 0 = x := ⟨_, rfl⟩
        rw [hxe] at hx HH
        have bx : (x != x) = false := by simp
        clear hcx hxe hk'
        go_wp2_with fail
        refine HH.out.mono ?_
        rintro e w' ⟨rfl, rfl⟩
        go_wp2
        go_round
        case rel => exact ⟨k + 1, by omega, by go_num⟩
        case measure => simp [intOf] <;> omega
    · go_wp2_with fail
      refine (awake_any _).mono ?_
      rintro e w6 ⟨rfl, h6⟩
      have HKP := Lib.hid (kept_any b g _ 0 w6 (HA.out.keep h6))
      have H6 := Lib.hid (HB.out.trans (h6.mono HB.out.size))
      clear h6
      go_wp2_with fail
      refine HKP.out.mono ?_
      rintro e w' ⟨rfl, rfl⟩
      go_wp2
      go_ret
      exact ⟨rfl, H6.out⟩

set_option maxHeartbeats 2000000 in
theorem way_long (a : Option Addr) (cap len : Nat) (who to n : Int) (w : World) (hs : 16 < len) (hl : len ≤ 9223372036854775807) :
    Calls Try.prog 4 #[.slice a len cap, .int .i64 who, .int .i64 to, .int .u64 n] w fun e w' => e = .returned (.bool true) ∧ Below w.heap.size w w' := by
  have HNW := Lib.hid (new_long a cap len w hs hl)
  clear hs hl
  go_enter Try.func4, Try.ntmps4
  go_wp2_with fail
  refine HNW.out.mono ?_
  rintro e w' ⟨rfl, rfl⟩
  go_wp2_with fail
  refine (awake_any _).mono ?_
  rintro e w6 ⟨rfl, h6⟩
  go_wp2
  go_ret
  exact ⟨rfl, h6⟩

set_option maxHeartbeats 2000000 in
theorem way_over (a : Option Addr) (cap len : Nat) (xs : List Int) (who to n : Int) (w : World) (hlen : xs.length = len) (hs : len ≤ 16) (hN : Nums w a xs) (hE : sumE xs ≠ 0) :
    Calls Try.prog 4 #[.slice a len cap, .int .i64 who, .int .i64 to, .int .u64 n] w fun e w' => e = .returned (.bool true) ∧ Below w.heap.size w w' := by
  have HNW := Lib.hid (new_over a cap len xs w hlen hs hN hE)
  have b0 : (sumE xs != 0) = true := by simpa using hE
  clear hs hlen hN hE
  generalize sumE xs = z at HNW b0
  go_enter Try.func4, Try.ntmps4
  go_wp2_with fail
  refine HNW.out.mono ?_
  rintro e w' ⟨rfl, rfl⟩
  go_wp2_with fail
  refine (awake_any _).mono ?_
  rintro e w6 ⟨rfl, h6⟩
  go_wp2
  go_ret
  exact ⟨rfl, h6⟩

theorem walk (a : Option Addr) (len cap : Nat) (zs : List Int) (who to n : Int) (w : World) (hR : IsRow .u64 w a len cap zs) (_ : (Lit.int .i64 who).wf = true) (_ : (Lit.int .i64 to).wf = true) (wn : (Lit.int .u64 n).wf = true) :
    Calls Try.prog 4 #[.slice a len cap, .int .i64 who, .int .i64 to, .int .u64 n] w fun e w' => e = .returned (.bool true) ∧ Below w.heap.size w w' := by
  have hn := word_wf wn
  obtain ⟨xs, hl, hN⟩ := hR.nums
  by_cases h1 : 16 < len
  · exact way_long a cap len who to n w h1 (by rw [← hl]; exact hN.2.2)
  · by_cases h2 : sumE xs = 0
    · by_cases h3 : keepE (fresh xs) who n = 0
      · by_cases h4 : moveE (fresh xs) who to n = 0
        · exact way_km a cap len xs who to n w hl (by omega) hN h2 hn h3 h4
        · exact way_kn a cap len xs who to n w hl (by omega) hN h2 hn h3 h4
      · by_cases h4 : moveE (fresh xs) who to n = 0
        · exact way_nm a cap len xs who to n w hl (by omega) hN h2 hn h3 h4
        · exact way_nn a cap len xs who to n w hl (by omega) hN h2 hn h3 h4
    · exact way_over a cap len xs who to n w hl (by omega) hN h2

theorem own : ownKnob Try.prog.godebug = none := by kernel_rfl
theorem laidOut : laidOutB Try.prog = true := by kernel_rfl

set_option maxRecDepth 100000 in
theorem lifted (os : Os) (started : os.Started) (H : Type) (enc : TypeId × Value → H) :
    ReturnsInHanded {} Try.checked os 4 .any (Rows.tillBackSpec.pre6 enc Try.prog Try.f4 Rows.tillBackRow.domain false) (Rows.tillBackSpec.post enc Try.prog Try.f4 false true false false) := by
  refine returnsInHanded_of_change (C := Try.checked) own started (by kernel_rfl) Try.func4
    (ChangeSpec.witness6 (enc := enc) (C := Try.checked) false ⟨#[], #[.slice none 0 0, .int .i64 0, .int .i64 0, .int .u64 0], []⟩ 8 (by kernel_rfl) (by kernel_rfl) (by kernel_rfl) (by kernel_rfl)) ?_
  intro W base args ds gs before hval0 hW hcnd _
  have hval : ∀ (j : Nat) t v, Try.f4.params[j]? = some t → args[j]? = some v → Value.okWide Try.prog W .any base t v := hval0
  have hW' := hW
  obtain ⟨p, q, hA0, hV, rfl, hfz, hnd⟩ := hW
  have hA : DataW.TrodAll enc Try.prog W 0 (fun _ => true) true Try.f4.params.toList args.toList ds p := hA0
  rw [Try.params4] at hA hval
  obtain ⟨v0, vs0, d0, ds0, p0, q0, hargs, rfl, rfl, h0, r0⟩ := trodAll_cons hA
  obtain ⟨v1, vs1, d1, ds1, p1, q1, rfl, rfl, rfl, h1, r1⟩ := trodAll_cons r0
  obtain ⟨v2, vs2, d2, ds2, p2, q2, rfl, rfl, rfl, h2, r2⟩ := trodAll_cons r1
  obtain ⟨v3, vs3, d3, ds3, p3, q3, rfl, rfl, rfl, h3, r3⟩ := trodAll_cons r2
  obtain ⟨rfl, rfl, rfl⟩ := trodAll_nil r3
  obtain rfl : args = #[v0, v1, v2, v3] := by cases args; simp_all
  obtain ⟨rfl, rfl⟩ := trodVars_none hV
  obtain ⟨a0, len0, cap0, rfl⟩ := okWide_slice Try.underlying22 (hval 0 22 v0 rfl rfl)
  have k0 := h0
  have lt0 : ∀ x ∈ p0, x.block < W.heap.size := by obtain ⟨m, hm⟩ := k0; exact DataW.trod_lt m _ _ _ hm
  obtain ⟨z0, w0⟩ : ∃ zs, IsRow .u64 W a0 len0 cap0 zs := by
    obtain ⟨fuel, hf⟩ := h0
    rcases open_ints Try.underlying22 Try.underlying33 (by kernel_rfl) hf with ⟨hcs, _⟩ | ⟨x, l, c, zs, hcs, _, hl, hm, hz, _, hcell, hwz⟩
    · simp [Value.cells] at hcs
      obtain ⟨rfl, rfl, rfl⟩ := hcs
      exact ⟨[], .inl ⟨rfl, rfl, rfl, rfl⟩⟩
    · simp [Value.cells] at hcs
      obtain ⟨rfl, rfl, rfl⟩ := hcs
      exact ⟨zs, .inr ⟨_, rfl, hl, hm, by simpa using hz, hcell, hwz⟩⟩
  obtain ⟨a1, rfl, rfl, rfl, w1⟩ := open_int Try.underlying3 (hval 1 3 v1 rfl rfl) h1
  obtain ⟨a2, rfl, rfl, rfl, w2⟩ := open_int Try.underlying3 (hval 2 3 v2 rfl rfl) h2
  obtain ⟨a3, rfl, rfl, rfl, w3⟩ := open_int Try.underlying33 (hval 3 33 v3 rfl rfl) h3
  clear hA0 hval0
  refine (walk a0 len0 cap0 z0 a1 a2 a3 W w0 w1 w2 w3).mono fun e W' ⟨he, bel⟩ => ?_
  subst he
  exact ⟨_, rfl, _, _, _, [], _, [], hW', trodAll_mk1 (shut_bool Try.underlying4 _), (trodAll_cons_mk (Below.trod laidOut (by kernel_rfl) (of_decide_eq_true (by kernel_rfl)) k0 bel lt0) (trodAll_cons_mk (shut_int Try.underlying3 w1) (trodAll_cons_mk (shut_int Try.underlying3 w2) (trodAll_cons_mk (shut_int Try.underlying33 w3) trodAll_mk0)))), rfl, bel.frame _, fun h => by cases h⟩

theorem proved : Rows.TillBackSaid :=
  OpenClaim.holds_of_wide 4 Try.f4 rfl rfl rfl rfl rfl rfl rfl ⟨rfl, rfl, rfl, rfl, rfl⟩ rfl rfl rfl rfl rfl (by kernel_rfl) Try.func4 (by kernel_rfl)
    (of_decide_eq_true (by kernel_rfl)) (by unfold Func.isWrapper; first | (rw [if_pos (by decide +kernel)]; kernel_rfl) | (rw [if_neg (by decide +kernel)]; exact ⟨rfl, rfl⟩))
    (fun os started H enc _ => lifted os started H enc)
#print axioms proved

end Go.Proofs.Ytbopnijekafogaa.tillBack
