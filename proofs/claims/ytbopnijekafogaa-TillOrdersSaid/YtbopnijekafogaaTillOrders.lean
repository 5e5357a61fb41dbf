/-
  tollhouselaw09.TillOrders returns true for every input: an account's orders count one by one, only with the next number; other accounts', and all amounts, stay as they are; nothing that was there is written.
-/
import Derived.Test.YtbopnijekafogaaRows
import Derived.Test.YtbopnijekafogaaTillP
namespace Go.Proofs.Ytbopnijekafogaa.tillOrders
open Go.ChangeShapes Go.WideShapes Go.ChangeAt Go.RowKit
set_option linter.unusedVariables false

/-- Accounts that just began, but that one has given t orders. -/
def ordSt (xs : List Int) (who t : Int) : List (Int × Int) := if 0 ≤ who ∧ who < xs.length then (fresh xs).set who.toNat (xs.getD who.toNat 0, t) else fresh xs
theorem ordSt_zero (xs : List Int) (who : Int) : ordSt xs who 0 = fresh xs := by
  unfold ordSt
  split
  · rw [← fresh_getD, set_self]
  · rfl
theorem ordSt_length (xs : List Int) (who t : Int) : (ordSt xs who t).length = xs.length := by
  unfold ordSt
  split
  · rw [List.length_set, fresh_length]
  · exact fresh_length xs
theorem ordSt_getD (xs : List Int) (who t : Int) (j : Nat) (hj : j < xs.length) : (ordSt xs who t).getD j (0, 0) = (xs.getD j 0, if (j : Int) = who then t else 0) := by
  unfold ordSt
  by_cases h : 0 ≤ who ∧ who < xs.length
  · rw [if_pos h]
    by_cases hw : (j : Int) = who
    · rw [if_pos hw, show who.toNat = j by omega, getD_set_same _ _ _ (by rw [fresh_length]; exact hj)]
    · rw [if_neg hw, getD_set_ne _ _ _ _ (by omega), fresh_getD]
  · rw [if_neg h, if_neg (by omega), fresh_getD]
theorem ordSt_has (xs : List Int) (who t : Int) (j : Nat) (hj : j < xs.length) : hasV (ordSt xs who t) j = xs.getD j 0 := by
  unfold hasV
  rw [ordSt_length, if_pos ⟨by omega, by omega⟩, Int.toNat_natCast, ordSt_getD xs who t j hj]
theorem ordSt_next (xs : List Int) (who t : Int) (j : Nat) (hj : j < xs.length) : nextV (ordSt xs who t) j = if (j : Int) = who then t else 0 := by
  unfold nextV
  rw [ordSt_length, if_pos ⟨by omega, by omega⟩, Int.toNat_natCast, ordSt_getD xs who t j hj]
theorem ord_out (xs : List Int) (who x t : Int) (h : ¬ (0 ≤ who ∧ who < xs.length)) : ordE (ordSt xs who t) who x = 1 := by
  unfold ordE
  rw [ordSt_length, if_neg h]
theorem ordL_out (xs : List Int) (who x t : Int) (h : ¬ (0 ≤ who ∧ who < xs.length)) : ordL (ordSt xs who t) who x = ordSt xs who t := by
  unfold ordL
  rw [if_neg (by rw [ord_out xs who x t h]; decide)]
theorem at_who (xs : List Int) (who t : Int) (h : 0 ≤ who ∧ who < xs.length) : (ordSt xs who t).getD who.toNat (0, 0) = (xs.getD who.toNat 0, t) := by
  rw [ordSt_getD xs who t who.toNat (by omega), if_pos (by omega)]
theorem ord_in_same (xs : List Int) (who x t : Int) (h : 0 ≤ who ∧ who < xs.length) (hx : x = t) : ordE (ordSt xs who t) who x = 0 := by
  unfold ordE
  rw [ordSt_length, if_pos h, at_who xs who t h, if_pos hx]
theorem ordL_in_same (xs : List Int) (who x t : Int) (h : 0 ≤ who ∧ who < xs.length) (hx : x = t) : ordL (ordSt xs who t) who x = ordSt xs who (wrp (t + 1)) := by
  unfold ordL
  rw [if_pos (ord_in_same xs who x t h hx), at_who xs who t h, hx]
  unfold ordSt
  rw [if_pos h, if_pos h, List.set_set]
theorem ord_in_ne (xs : List Int) (who x t : Int) (h : 0 ≤ who ∧ who < xs.length) (hx : ¬ x = t) : ordE (ordSt xs who t) who x = 22 := by
  unfold ordE
  rw [ordSt_length, if_pos h, at_who xs who t h, if_neg hx]
theorem ordL_in_ne (xs : List Int) (who x t : Int) (h : 0 ≤ who ∧ who < xs.length) (hx : ¬ x = t) : ordL (ordSt xs who t) who x = ordSt xs who t := by
  unfold ordL
  rw [if_neg (by rw [ord_in_ne xs who x t h hx]; decide)]

set_option maxRecDepth 100000 in
set_option maxHeartbeats 4000000 in
theorem way_in (a : Option Addr) (cap len : Nat) (xs : List Int) (who : Int) (c : Option Addr) (cap2 len2 : Nat) (ys : List Int) (w : World) (hlen : xs.length = len) (hs : len ≤ 16) (hN : Nums w a xs) (hE : sumE xs = 0) (hlen2 : ys.length = len2) (hs2 : len2 ≤ 200) (hM : Nums w c ys)
    (hin : 0 ≤ who ∧ who < len) :
    Calls Try.prog 6 #[.slice a len cap, .int .i64 who, .slice c len2 cap2] w fun e w' => e = .returned (.bool true) ∧ Below w.heap.size w w' := by
  have HN := Lib.hid hN
  have HM := Lib.hid hM
  have HL := Lib.hid hlen
  have HL2 := Lib.hid hlen2
  have HNW := Lib.hid (new_ok a cap len xs w hlen hs hN hE)
  have HIN := Lib.hid hin
  have d200 : decide ((200 : Int) < len2) = false := decide_eq_false (by omega)
  clear hE hN hlen hM hlen2
  have d1 : decide (who < 0) = false := decide_eq_false (by omega)
  have d2 : decide ((len : Int) ≤ who) = false := decide_eq_false (by omega)
  clear hin
  go_enter Try.func6, Try.ntmps6
  go_wp2_with fail
  refine HNW.out.mono ?_
  rintro e w1 ⟨b, g, rfl, hA, hB, hb, hg⟩
  replace hA : AtT w1 b g (fresh xs) 0 := hA
  have HB := Lib.hid hB
  have HA : Hid (AtT w1 b g (ordSt xs who 0) 0) := Lib.hid (by rw [ordSt_zero]; exact hA)
  clear hA hB HNW
  go_wp2
  go_loopw [9, 11, 12, 42, 50, 61, 69] (fun s _ _ i _ _ _ wd => ∃ (k : Nat) (t : Int), k ≤ len2 ∧ i = .int .i64 k ∧ s = .int .u64 t ∧ Word t ∧ Hid (AtT wd b g (ordSt xs who t) 0) ∧ Hid (Below w.heap.size w wd)) (fun _ _ _ i _ _ _ _ => len2 - (intOf i).toNat)
  case atStart => exact ⟨0, 0, Nat.zero_le _, rfl, rfl, ⟨by decide, by decide⟩, HA, HB⟩
  case round =>
    clear HA HB
    obtain ⟨k, t, hk, rfl, rfl, ht, HA, HB⟩ := hrel
    by_cases hlt : k < len2
    · have hk' : k < ys.length := by rw [HL2.out]; exact hlt
      rcases HM.out.1 with h0 | ⟨b0, off, rfl, hb0, hcx⟩
      · exfalso; rw [h0] at hk'; simp at hk'
      · have hx := hcx k hk'
        rw [← HB.out.cell (p := ⟨b0, off + k, none⟩) hb0] at hx
        have hwx := HM.out.getD_word k
        obtain ⟨x, hxe⟩ : ∃ x, ys.getD k 0 = x := ⟨_, rfl⟩
        rw [hxe] at hx hwx
        clear hcx hxe hk'
        have HO := Lib.hid (order_any b g _ 0 who x wr HA.out hwx)
        by_cases hxt : x = t
        · rw [ord_in_same xs who x t (by rw [HL.out]; exact HIN.out) hxt, ordL_in_same xs who x t (by rw [HL.out]; exact HIN.out) hxt] at HO
          obtain ⟨y, hy⟩ : ∃ y, wrp (t + 1) = y := ⟨_, rfl⟩
          have hwy : Word y := hy ▸ wr_word (t + 1)
          rw [hy] at HO
          have hy' : IntKind.u64.wrap (t + 1) = y := hy
          have bxt : (x == t) = true := by simpa using hxt
          clear hy hxt
          go_wp2_with fail
          refine HO.out.mono ?_
          rintro e w2 ⟨rfl, hA2, hO2⟩
          have HA2 := Lib.hid hA2
          have HB2 := Lib.hid (HB.out.trans (hO2.below hb hg HB.out.size))
          clear hA2 hO2 HO
          go_wp2
          go_roundw
          case rel => exact ⟨k + 1, y, by omega, by go_num, rfl, hwy, HA2, HB2⟩
          case measure => simp [intOf] <;> omega
        · rw [ord_in_ne xs who x t (by rw [HL.out]; exact HIN.out) hxt, ordL_in_ne xs who x t (by rw [HL.out]; exact HIN.out) hxt] at HO
          have bxt : (x == t) = false := by simpa using hxt
          clear hxt
          go_wp2_with fail
          refine HO.out.mono ?_
          rintro e w2 ⟨rfl, hA2, hO2⟩
          have HA2 := Lib.hid hA2
          have HB2 := Lib.hid (HB.out.trans (hO2.below hb hg HB.out.size))
          clear hA2 hO2 HO
          go_wp2
          go_roundw
          case rel => exact ⟨k + 1, t, by omega, by go_num, rfl, ht, HA2, HB2⟩
          case measure => simp [intOf] <;> omega
    · skip
      go_wp2
      go_loop [13, 14, 15, 75] (fun _ _ _ i => ∃ k : Nat, k ≤ len ∧ i = .int .i64 k) (fun _ _ _ i => len - (intOf i).toNat)
      case atStart => exact ⟨0, Nat.zero_le _, rfl⟩
      case round =>
        obtain ⟨j, hj, rfl⟩ := hrel
        by_cases hlt : j < len
        · have hj' : j < xs.length := by rw [HL.out]; exact hlt
          have HH := Lib.hid (has_any b g _ 0 j wr HA.out)
          have HX := Lib.hid (next_any b g _ 0 j wr HA.out)
          rw [ordSt_has xs who t j hj'] at HH
          rw [ordSt_next xs who t j hj'] at HX
          rcases HN.out.1 with h0 | ⟨b0, off, rfl, hb0, hcx⟩
          · exfalso; rw [h0] at hj'; simp at hj'
          · have hx := hcx j hj'
            rw [← HB.out.cell (p := ⟨b0, off + j, none⟩) hb0] at hx
            obtain ⟨x, hxe⟩ : ∃ x, xs.getD j 0 = x := ⟨_, rfl⟩
            rw [hxe] at hx HH
            have bx : (x != x) = false := by simp
            clear hcx hxe hj'
            by_cases hw : (j : Int) = who
            · have bw : ((j : Int) == who) = true := by simpa using hw
              rw [if_pos hw] at HX
              have bt : (t != t) = false := by simp
              clear hw
              go_wp2_with fail
              refine HX.out.mono ?_
              rintro e w' ⟨rfl, rfl⟩
              go_wp2_with fail
              refine HH.out.mono ?_
              rintro e w' ⟨rfl, rfl⟩
              go_wp2
              go_round
              case rel => exact ⟨j + 1, by omega, by go_num⟩
              case measure => simp [intOf] <;> omega
            · have bw : ((j : Int) == who) = false := by simpa using hw
              rw [if_neg hw] at HX
              clear hw
              go_wp2_with fail
              refine HX.out.mono ?_
              rintro e w' ⟨rfl, rfl⟩
              go_wp2_with fail
              refine HH.out.mono ?_
              rintro e w' ⟨rfl, rfl⟩
              go_wp2
              go_round
              case rel => exact ⟨j + 1, by omega, by go_num⟩
              case measure => simp [intOf] <;> omega
        · go_wp2_with fail
          refine (awake_any _).mono ?_
          rintro e w6 ⟨rfl, h6⟩
          have H6 := Lib.hid (HB.out.trans (h6.mono HB.out.size))
          clear h6
          go_wp2
          go_ret
          exact ⟨rfl, H6.out⟩

set_option maxRecDepth 100000 in
set_option maxHeartbeats 4000000 in
theorem way_out (a : Option Addr) (cap len : Nat) (xs : List Int) (who : Int) (c : Option Addr) (cap2 len2 : Nat) (ys : List Int) (w : World) (hlen : xs.length = len) (hs : len ≤ 16) (hN : Nums w a xs) (hE : sumE xs = 0) (hlen2 : ys.length = len2) (hs2 : len2 ≤ 200) (hM : Nums w c ys)
    (hin : ¬ (0 ≤ who ∧ who < len)) :
    Calls Try.prog 6 #[.slice a len cap, .int .i64 who, .slice c len2 cap2] w fun e w' => e = .returned (.bool true) ∧ Below w.heap.size w w' := by
  have HN := Lib.hid hN
  have HM := Lib.hid hM
  have HL := Lib.hid hlen
  have HL2 := Lib.hid hlen2
  have HNW := Lib.hid (new_ok a cap len xs w hlen hs hN hE)
  have HIN := Lib.hid hin
  have d200 : decide ((200 : Int) < len2) = false := decide_eq_false (by omega)
  clear hE hN hlen hM hlen2
  go_enter Try.func6, Try.ntmps6
  go_wp2_with fail
  refine HNW.out.mono ?_
  rintro e w1 ⟨b, g, rfl, hA, hB, hb, hg⟩
  replace hA : AtT w1 b g (fresh xs) 0 := hA
  have HB := Lib.hid hB
  have HA : Hid (AtT w1 b g (ordSt xs who 0) 0) := Lib.hid (by rw [ordSt_zero]; exact hA)
  clear hA hB HNW
  go_wp2
  go_loopw [9, 11, 12, 42, 50, 61, 69] (fun s _ _ i _ _ _ wd => ∃ (k : Nat) (t : Int), k ≤ len2 ∧ i = .int .i64 k ∧ s = .int .u64 t ∧ Word t ∧ Hid (AtT wd b g (ordSt xs who t) 0) ∧ Hid (Below w.heap.size w wd)) (fun _ _ _ i _ _ _ _ => len2 - (intOf i).toNat)
  case atStart => exact ⟨0, 0, Nat.zero_le _, rfl, rfl, ⟨by decide, by decide⟩, HA, HB⟩
  case round =>
    clear HA HB
    obtain ⟨k, t, hk, rfl, rfl, ht, HA, HB⟩ := hrel
    by_cases hlt : k < len2
    · have hk' : k < ys.length := by rw [HL2.out]; exact hlt
      rcases HM.out.1 with h0 | ⟨b0, off, rfl, hb0, hcx⟩
      · exfalso; rw [h0] at hk'; simp at hk'
      · have hx := hcx k hk'
        rw [← HB.out.cell (p := ⟨b0, off + k, none⟩) hb0] at hx
        have hwx := HM.out.getD_word k
        obtain ⟨x, hxe⟩ : ∃ x, ys.getD k 0 = x := ⟨_, rfl⟩
        rw [hxe] at hx hwx
        clear hcx hxe hk'
        have HO := Lib.hid (order_any b g _ 0 who x wr HA.out hwx)
        rw [ord_out xs who x t (by rw [HL.out]; exact HIN.out), ordL_out xs who x t (by rw [HL.out]; exact HIN.out)] at HO
        by_cases hneg : who < 0
        · have d1 : decide (who < 0) = true := decide_eq_true hneg
          go_wp2_with fail
          refine HO.out.mono ?_
          rintro e w2 ⟨rfl, hA2, hO2⟩
          have HA2 := Lib.hid hA2
          have HB2 := Lib.hid (HB.out.trans (hO2.below hb hg HB.out.size))
          clear hA2 hO2 HO
          go_wp2
          go_roundw
          case rel => exact ⟨k + 1, t, by omega, by go_num, rfl, ht, HA2, HB2⟩
          case measure => simp [intOf] <;> omega
        · have d1 : decide (who < 0) = false := decide_eq_false hneg
          have d2 : decide ((len : Int) ≤ who) = true := decide_eq_true (by have := HIN.out; omega)
          go_wp2_with fail
          refine HO.out.mono ?_
          rintro e w2 ⟨rfl, hA2, hO2⟩
          have HA2 := Lib.hid hA2
          have HB2 := Lib.hid (HB.out.trans (hO2.below hb hg HB.out.size))
          clear hA2 hO2 HO
          go_wp2
          go_roundw
          case rel => exact ⟨k + 1, t, by omega, by go_num, rfl, ht, HA2, HB2⟩
          case measure => simp [intOf] <;> omega
    · skip
      go_wp2
      go_loop [13, 14, 15, 75] (fun _ _ _ i => ∃ k : Nat, k ≤ len ∧ i = .int .i64 k) (fun _ _ _ i => len - (intOf i).toNat)
      case atStart => exact ⟨0, Nat.zero_le _, rfl⟩
      case round =>
        obtain ⟨j, hj, rfl⟩ := hrel
        by_cases hlt : j < len
        · have hj' : j < xs.length := by rw [HL.out]; exact hlt
          have HH := Lib.hid (has_any b g _ 0 j wr HA.out)
          have HX := Lib.hid (next_any b g _ 0 j wr HA.out)
          rw [ordSt_has xs who t j hj'] at HH
          rw [ordSt_next xs who t j hj'] at HX
          rcases HN.out.1 with h0 | ⟨b0, off, rfl, hb0, hcx⟩
          · exfalso; rw [h0] at hj'; simp at hj'
          · have hx := hcx j hj'
            rw [← HB.out.cell (p := ⟨b0, off + j, none⟩) hb0] at hx
            obtain ⟨x, hxe⟩ : ∃ x, xs.getD j 0 = x := ⟨_, rfl⟩
            rw [hxe] at hx HH
            have bx : (x != x) = false := by simp
            clear hcx hxe hj'
            by_cases hw : (j : Int) = who
            · have bw : ((j : Int) == who) = true := by simpa using hw
              rw [if_pos hw] at HX
              have bt : (t != t) = false := by simp
              clear hw
              go_wp2_with fail
              refine HX.out.mono ?_
              rintro e w' ⟨rfl, rfl⟩
              go_wp2_with fail
              refine HH.out.mono ?_
              rintro e w' ⟨rfl, rfl⟩
              go_wp2
              go_round
              case rel => exact ⟨j + 1, by omega, by go_num⟩
              case measure => simp [intOf] <;> omega
            · have bw : ((j : Int) == who) = false := by simpa using hw
              rw [if_neg hw] at HX
              clear hw
              go_wp2_with fail
              refine HX.out.mono ?_
              rintro e w' ⟨rfl, rfl⟩
              go_wp2_with fail
              refine HH.out.mono ?_
              rintro e w' ⟨rfl, rfl⟩
              go_wp2
              go_round
              case rel => exact ⟨j + 1, by omega, by go_num⟩
              case measure => simp [intOf] <;> omega
        · go_wp2_with fail
          refine (awake_any _).mono ?_
          rintro e w6 ⟨rfl, h6⟩
          have H6 := Lib.hid (HB.out.trans (h6.mono HB.out.size))
          clear h6
          go_wp2
          go_ret
          exact ⟨rfl, H6.out⟩

set_option maxHeartbeats 2000000 in
theorem way_long (a : Option Addr) (cap len : Nat) (who : Int) (c : Option Addr) (cap2 len2 : Nat) (w : World) (hs : 16 < len) (hl : len ≤ 9223372036854775807) :
    Calls Try.prog 6 #[.slice a len cap, .int .i64 who, .slice c len2 cap2] w fun e w' => e = .returned (.bool true) ∧ Below w.heap.size w w' := by
  have HNW := Lib.hid (new_long a cap len w hs hl)
  clear hs hl
  go_enter Try.func6, Try.ntmps6
  go_wp2_with fail
  refine HNW.out.mono ?_
  rintro e w' ⟨rfl, rfl⟩
  go_wp2_with fail
  refine (awake_any _).mono ?_
  rintro e w6 ⟨rfl, h6⟩
  go_wp2
  go_ret
  exact ⟨rfl, h6⟩

set_option maxHeartbeats 2000000 in
theorem way_over (a : Option Addr) (cap len : Nat) (xs : List Int) (who : Int) (c : Option Addr) (cap2 len2 : Nat) (w : World) (hlen : xs.length = len) (hs : len ≤ 16) (hN : Nums w a xs) (hE : sumE xs ≠ 0) :
    Calls Try.prog 6 #[.slice a len cap, .int .i64 who, .slice c len2 cap2] w fun e w' => e = .returned (.bool true) ∧ Below w.heap.size w w' := by
  have HNW := Lib.hid (new_over a cap len xs w hlen hs hN hE)
  have b0 : (sumE xs != 0) = true := by simpa using hE
  clear hs hlen hN hE
  generalize sumE xs = z at HNW b0
  go_enter Try.func6, Try.ntmps6
  go_wp2_with fail
  refine HNW.out.mono ?_
  rintro e w' ⟨rfl, rfl⟩
  go_wp2_with fail
  refine (awake_any _).mono ?_
  rintro e w6 ⟨rfl, h6⟩
  go_wp2
  go_ret
  exact ⟨rfl, h6⟩

set_option maxHeartbeats 2000000 in
theorem way_many (a : Option Addr) (cap len : Nat) (xs : List Int) (who : Int) (c : Option Addr) (cap2 len2 : Nat) (w : World) (hlen : xs.length = len) (hs : len ≤ 16) (hN : Nums w a xs) (hE : sumE xs = 0) (hl2 : 200 < len2) :
    Calls Try.prog 6 #[.slice a len cap, .int .i64 who, .slice c len2 cap2] w fun e w' => e = .returned (.bool true) ∧ Below w.heap.size w w' := by
  have HNW := Lib.hid (new_ok a cap len xs w hlen hs hN hE)
  have d200 : decide ((200 : Int) < len2) = true := decide_eq_true (by omega)
  clear hs hlen hN hE hl2
  go_enter Try.func6, Try.ntmps6
  go_wp2_with fail
  refine HNW.out.mono ?_
  rintro e w1 ⟨b, g, rfl, hA, hB, hb, hg⟩
  have HB := Lib.hid hB
  clear hA hB hb hg
  go_wp2_with fail
  refine (awake_any _).mono ?_
  rintro e w6 ⟨rfl, h6⟩
  have H6 := Lib.hid (HB.out.trans (h6.mono HB.out.size))
  clear h6
  go_wp2
  go_ret
  exact ⟨rfl, H6.out⟩

theorem walk (a : Option Addr) (len cap : Nat) (zs : List Int) (who : Int) (c : Option Addr) (len2 cap2 : Nat) (zs2 : List Int) (w : World) (hR : IsRow .u64 w a len cap zs) (_ : (Lit.int .i64 who).wf = true) (hR2 : IsRow .u64 w c len2 cap2 zs2) :
    Calls Try.prog 6 #[.slice a len cap, .int .i64 who, .slice c len2 cap2] w fun e w' => e = .returned (.bool true) ∧ Below w.heap.size w w' := by
  obtain ⟨xs, hl, hN⟩ := hR.nums
  obtain ⟨ys, hl2, hM⟩ := hR2.nums
  by_cases h1 : 16 < len
  · exact way_long a cap len who c cap2 len2 w h1 (by rw [← hl]; exact hN.2.2)
  · by_cases h2 : sumE xs = 0
    · by_cases h3 : 200 < len2
      · exact way_many a cap len xs who c cap2 len2 w hl (by omega) hN h2 h3
      · by_cases h4 : 0 ≤ who ∧ who < len
        · exact way_in a cap len xs who c cap2 len2 ys w hl (by omega) hN h2 hl2 (by omega) hM h4
        · exact way_out a cap len xs who c cap2 len2 ys w hl (by omega) hN h2 hl2 (by omega) hM h4
    · exact way_over a cap len xs who c cap2 len2 w hl (by omega) hN h2

theorem own : ownKnob Try.prog.godebug = none := by kernel_rfl
theorem laidOut : laidOutB Try.prog = true := by kernel_rfl

set_option maxRecDepth 100000 in
theorem lifted (os : Os) (started : os.Started) (H : Type) (enc : TypeId × Value → H) :
    ReturnsInHanded {} Try.checked os 6 .any (Rows.tillOrdersSpec.pre6 enc Try.prog Try.f6 Rows.tillOrdersRow.domain false) (Rows.tillOrdersSpec.post enc Try.prog Try.f6 false true false false) := by
  refine returnsInHanded_of_change (C := Try.checked) own started (by kernel_rfl) Try.func6
    (ChangeSpec.witness6 (enc := enc) (C := Try.checked) false ⟨#[], #[.slice none 0 0, .int .i64 0, .slice none 0 0], []⟩ 8 (by kernel_rfl) (by kernel_rfl) (by kernel_rfl) (by kernel_rfl)) ?_
  intro W base args ds gs before hval0 hW hcnd _
  have hval : ∀ (j : Nat) t v, Try.f6.params[j]? = some t → args[j]? = some v → Value.okWide Try.prog W .any base t v := hval0
  have hW' := hW
  obtain ⟨p, q, hA0, hV, rfl, hfz, hnd⟩ := hW
  have hA : DataW.TrodAll enc Try.prog W 0 (fun _ => true) true Try.f6.params.toList args.toList ds p := hA0
  rw [Try.params6] at hA hval
  obtain ⟨v0, vs0, d0, ds0, p0, q0, hargs, rfl, rfl, h0, r0⟩ := trodAll_cons hA
  obtain ⟨v1, vs1, d1, ds1, p1, q1, rfl, rfl, rfl, h1, r1⟩ := trodAll_cons r0
  obtain ⟨v2, vs2, d2, ds2, p2, q2, rfl, rfl, rfl, h2, r2⟩ := trodAll_cons r1
  obtain ⟨rfl, rfl, rfl⟩ := trodAll_nil r2
  obtain rfl : args = #[v0, v1, v2] := by cases args; simp_all
  obtain ⟨rfl, rfl⟩ := trodVars_none hV
  obtain ⟨a0, len0, cap0, rfl⟩ := okWide_slice Try.underlying22 (hval 0 22 v0 rfl rfl)
  have k0 := h0
  have lt0 : ∀ x ∈ p0, x.block < W.heap.size := by obtain ⟨m, hm⟩ := k0; exact DataW.trod_lt m _ _ _ hm
  obtain ⟨z0, w0⟩ : ∃ zs, IsRow .u64 W a0 len0 cap0 zs := by
    obtain ⟨fuel, hf⟩ := h0
    rcases open_ints Try.underlying22 Try.underlying33 (by kernel_rfl) hf with ⟨hcs, _⟩ | ⟨x, l, c, zs, hcs, _, hl, hm, hz, _, hcell, hwz⟩
    · simp [Value.cells] at hcs
      obtain ⟨rfl, rfl, rfl⟩ := hcs
      exact ⟨[], .inl ⟨rfl, rfl, rfl, rfl⟩⟩
    · simp [Value.cells] at hcs
      obtain ⟨rfl, rfl, rfl⟩ := hcs
      exact ⟨zs, .inr ⟨_, rfl, hl, hm, by simpa using hz, hcell, hwz⟩⟩
  obtain ⟨a1, rfl, rfl, rfl, w1⟩ := open_int Try.underlying3 (hval 1 3 v1 rfl rfl) h1
  obtain ⟨a2, len2, cap2, rfl⟩ := okWide_slice Try.underlying22 (hval 2 22 v2 rfl rfl)
  have k2 := h2
  have lt2 : ∀ x ∈ p2, x.block < W.heap.size := by obtain ⟨m, hm⟩ := k2; exact DataW.trod_lt m _ _ _ hm
  obtain ⟨z2, w2⟩ : ∃ zs, IsRow .u64 W a2 len2 cap2 zs := by
    obtain ⟨fuel, hf⟩ := h2
    rcases open_ints Try.underlying22 Try.underlying33 (by kernel_rfl) hf with ⟨hcs, _⟩ | ⟨x, l, c, zs, hcs, _, hl, hm, hz, _, hcell, hwz⟩
    · simp [Value.cells] at hcs
      obtain ⟨rfl, rfl, rfl⟩ := hcs
      exact ⟨[], .inl ⟨rfl, rfl, rfl, rfl⟩⟩
    · simp [Value.cells] at hcs
      obtain ⟨rfl, rfl, rfl⟩ := hcs
      exact ⟨zs, .inr ⟨_, rfl, hl, hm, by simpa using hz, hcell, hwz⟩⟩
  clear hA0 hval0
  refine (walk a0 len0 cap0 z0 a1 a2 len2 cap2 z2 W w0 w1 w2).mono fun e W' ⟨he, bel⟩ => ?_
  subst he
  exact ⟨_, rfl, _, _, _, [], _, [], hW', trodAll_mk1 (shut_bool Try.underlying4 _), (trodAll_cons_mk (Below.trod laidOut (by kernel_rfl) (of_decide_eq_true (by kernel_rfl)) k0 bel lt0) (trodAll_cons_mk (shut_int Try.underlying3 w1) (trodAll_cons_mk (Below.trod laidOut (by kernel_rfl) (of_decide_eq_true (by kernel_rfl)) k2 bel lt2) trodAll_mk0))), rfl, bel.frame _, fun h => by cases h⟩

theorem proved : Rows.TillOrdersSaid :=
  OpenClaim.holds_of_wide 6 Try.f6 rfl rfl rfl rfl rfl rfl rfl ⟨rfl, rfl, rfl, rfl, rfl⟩ rfl rfl rfl rfl rfl (by kernel_rfl) Try.func6 (by kernel_rfl)
    (of_decide_eq_true (by kernel_rfl)) (by unfold Func.isWrapper; first | (rw [if_pos (by decide +kernel)]; kernel_rfl) | (rw [if_neg (by decide +kernel)]; exact ⟨rfl, rfl⟩))
    (fun os started H enc _ => lifted os started H enc)
#print axioms proved

end Go.Proofs.Ytbopnijekafogaa.tillOrders
