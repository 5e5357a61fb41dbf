/-
  tollhouselaw01.OctetBack (function 4): what was laid is taken as it was, and nothing is left.
-/
import Derived.Test.YtneacogenjlhgaaLaysWalk
import Derived.Test.YtneacogenjlhgaaInSum
import Derived.ChangeKeysEq
import Derived.Laws.StructEq
namespace Go.Proofs.Ytneacogenjlhgaa
open Go.RowKit
set_option linter.unusedVariables false

theorem part_byte (l : List Int) (i : Nat) (hi : i < l.length) (w : World) : (Go.part 5 (byt l).toArray (i * 1)).run Try.prog w = .ok (.int .u8 (l.getD i 0)) w := by
  have h : (byt l)[i]? = some (.int .u8 (l.getD i 0)) := by simp [byt, List.getD, hi]
  simp [Go.part, isAgg, run_underlying Try.underlying5, h]
theorem eq_items (a : List Int) (n : Nat) (ha : a.length = n) (d : Nat) (w : World) : ∀ (k : Nat) (is : List Nat), is = (List.range n).drop (n - k) → k ≤ n →
    (Op.eqItems (d + 1) 5 1 (byt a).toArray (byt a).toArray is).run Try.prog w = .ok true w
  | 0, is, he, _ => by
    subst he
    rw [List.drop_eq_nil_of_le (by simp)]
    simp [Op.eqItems]
  | k + 1, is, he, hk => by
    have e1 : n - k = n - (k + 1) + 1 := by omega
    have e2 : (List.range n).drop (n - (k + 1)) = (n - (k + 1)) :: (List.range n).drop (n - k) := by
      rw [List.drop_eq_getElem_cons (by simp; omega), ← e1]
      simp
    have ih := eq_items a n ha d w k _ rfl (by omega)
    subst he
    rw [e2]
    have ga := part_byte a (n - (k + 1)) (by omega) w
    have hi := run_equalIn_int (P := Try.prog) w d 5 .u8 .u8 (a.getD (n - (k + 1)) 0) (a.getD (n - (k + 1)) 0) Try.underlying5
    simp only [Op.eqItems, Sem.run_bind, ga, hi, Result.andThen_ok]
    simp [ih]
theorem eql_sum (a : List Int) (ha : a.length = 32) (w : World) : (binOp .eql 42 (.agg (byt a).toArray) (.agg (byt a).toArray)).run Try.prog w = .ok (.bool true) w := by
  obtain ⟨i0, hi, hzz⟩ := Option.map_eq_some_iff.1 (show (Try.prog.info? 5).map (fun i => (i.zero, i.size, i.bytes)) = some (some (.int .u8 0), 1, 1) by kernel_rfl)
  have h := run_equalIn_array (P := Try.prog) w 9999 (byt a).toArray (byt a).toArray Try.underlying42 hi
  rw [run_eql_struct, h, show Try.prog.cellsOf 5 = 1 by kernel_rfl]
  have h2 := eq_items a 32 ha 9998 w 32 (List.range 32) (by simp) (Nat.le_refl _)
  rw [h2]
  rfl

theorem laysAll_drop (l : List It) (k : Nat) (x : It) (hk : k < l.length) (hx : l.getD k default = x) : laysAll (l.drop k) = x.lays ++ laysAll (l.drop (k + 1)) := by
  have e : l[k] = x := by rw [← hx]; simp [List.getD, hk]
  rw [List.drop_eq_getElem_cons hk, e]
  simp [laysAll]

set_option maxRecDepth 100000 in
set_option maxHeartbeats 4000000 in
theorem octetBack_walk (A : Option Addr) (len cap : Nat) (l : List It) (W : World) (HI : Hid (Items W A l)) (HL : Hid (l.length = len)) (hm : len ≤ 140737488355328) :
    Calls Try.prog 4 #[.slice A len cap] W fun e w' => e = .returned (.bool true) ∧ Below W.heap.size W w' := by
  go_enter Try.func4, Try.ntmps4
  go_wp2_with fail
  refine (fits_any A cap len l W HI.out HL.out hm).mono ?_
  rintro e w0 ⟨rfl, hB0⟩
  have HB0 := Lib.hid hB0
  clear hB0
  rcases hf : fitsB l with _ | _
  · clear hf
    go_wp2_with fail
    refine (awake1_any _).mono ?_
    rintro e w1 ⟨rfl, h1⟩
    go_wp2
    go_ret
    exact ⟨rfl, HB0.out.trans (h1.mono HB0.out.size)⟩
  · have hf' := hf
    unfold fitsB at hf'
    rw [Bool.and_eq_true] at hf'
    have hl40 : l.length ≤ 40 := by simpa using hf'.2
    have HALL : Hid (∀ x ∈ l, x.n ≤ 4096) := Lib.hid fun x hx => by simpa using List.all_eq_true.1 hf'.1 x hx
    rw [HL.out] at hl40
    clear hf hf'
    go_wp2_with fail
    go_loopw [16, 3, 5] (fun i o _ wr => ∃ (k : Nat), k ≤ len ∧ i = .int .i64 k ∧ Hid (Own wr w0.heap.size o (laysAll (l.take k))) ∧ Hid (Below w0.heap.size w0 wr)) (fun i _ _ _ => len - (intOf i).toNat)
    case atStart => exact ⟨0, Nat.zero_le _, rfl, Lib.hid (Own.nil _ _), Lib.hid (Below.refl _ _)⟩
    case round =>
      obtain ⟨k, hk, rfl, HO, HB⟩ := hrel
      have HWB : Hid (Below W.heap.size W wr) := Lib.hid (HB0.out.trans (HB.out.mono HB0.out.size))
      by_cases hlt : k < len
      · have hkn : k < l.length := by rw [HL.out]; exact hlt
        rcases HI.out.1 with h0 | ⟨b, off, rfl, hb, hc⟩
        · exfalso
          rw [h0] at hkn
          simp at hkn
        · obtain ⟨x, hx⟩ : ∃ x, l.getD k default = x := ⟨_, rfl⟩
          have hrange := hc k hkn
          rw [hx] at hrange
          have HRG := Lib.hid (rangeAt_below hrange HWB.out hb)
          have hok := HI.out.2 x (it_mem l k x hkn hx)
          have HTK := Lib.hid (laysAll_take l k x hkn hx)
          have hbl : x.cells.length = 36 := x.size hok.d
          have HBS : Hid ((Try.prog.info? 31).map (·.size) = some x.cells.length) := Lib.hid (by rw [hbl]; exact info31)
          have HST : Hid ((Try.prog.info? 31).map (·.size) = some x.cells.toArray.size) := Lib.hid (by rw [List.size_toArray, hbl]; exact info31)
          have hz36 : zit.size = 36 := rfl
          have HSZ : Hid (zit.size = x.cells.toArray.size) := Lib.hid (by rw [hz36, List.size_toArray, hbl])
          have HAL : Hid (x.cells.toArray.all (·.oneCell') = true) := Lib.hid x.oneCells
          have HLA := Lib.hid (heap_alloc_last wr (.cells zit 31))
          have HOK := Lib.hid hok
          have hbr : b < wr.heap.size := Nat.lt_of_lt_of_le hb HWB.out.size
          have HN4 := Lib.hid (HALL.out x (it_mem l k x hkn hx))
          have HLE : Hid ((laysAll (l.take k)).length ≤ 1000000) := Lib.hid (by
            have h1 := laysAll_le (l.take k) W (fun y hy => ⟨HI.out.2 y (List.mem_of_mem_take hy), HALL.out y (List.mem_of_mem_take hy)⟩)
            rw [List.length_take] at h1
            omega)
          clear hc hx hrange hok hbl hz36
          unfold zit at HSZ HLA
          have HRX := Lib.hid (Held.range wr x)
          go_wp2_with (first | (refine wpList_load_mid rfl 31 (.tmp 18) rfl b (off + k * 36) rfl x.cells _ HRG.out Try.underlying31 rfl HBS.out ?_) | (refine wpList_store_row rfl 31 (.tmp 5) (.tmp 19) rfl wr.heap.size x.cells.toArray rfl rfl 31 _ HLA.out HST.out HSZ.out HAL.out ?_; rw [World.setRow_alloc_new]) | (refine wpList_load_mid rfl 31 (.tmp 5) rfl wr.heap.size 0 rfl x.cells _ HRX.out Try.underlying31 rfl HBS.out ?_))
          have HOX := Lib.hid (World.ownsRow.alloc HO.out (.cells x.cells.toArray 31))
          have HWX := Lib.hid (HWB.out.alloc HWB.out.size (.cells x.cells.toArray 31))
          have HBX := Lib.hid (HB.out.alloc HB.out.size (.cells x.cells.toArray 31))
          generalize wr.alloc (.cells x.cells.toArray 31) = wx at HOX HWX HBX HRX ⊢
          refine (lay_any u3 x w0.heap.size _ wx HOX.out (HOK.out.below HWX.out) HN4.out HLE.out HBX.out.size).mono ?_
          intro e w1 h1
          obtain ⟨v1, rfl, hO1, hg1, hL1⟩ := h1
          have HO1 := Lib.hid hO1
          have HB1 := Lib.hid (Laid.keep HBX.out HOX.out HBX.out.size hg1)
          clear hO1 hg1 hL1 HO HOX HWX HBX HRX HLA HSZ HST HAL HRG
          rw [← HTK.out] at HO1
          go_wp2
          go_roundw
          case rel => exact ⟨k + 1, by omega, by go_num, HO1, HB1⟩
          case measure => simp [intOf]; omega
      · obtain rfl : k = len := by omega
        have htk : l.take k = l := List.take_of_length_le (by rw [HL.out]; exact Nat.le_refl _)
        rw [htk] at HO
        clear htk
        have hlen : (laysAll l).length ≤ 1000000 := by
          have h1 := laysAll_le l W (fun y hy => ⟨HI.out.2 y hy, HALL.out y hy⟩)
          rw [HL.out] at h1
          omega
        obtain ⟨Ao, co, hvo, hso⟩ := HO.out.src
        obtain ⟨n, hn⟩ : ∃ n, (laysAll l).length = n := ⟨_, rfl⟩
        rw [hn] at hvo hlen
        subst hvo
        have HNN := Lib.hid hn
        have HSO := Lib.hid hso
        clear hn hso
        go_wp2_with fail
        refine (of_any Ao co n (laysAll l) wr HSO HNN (by omega)).mono ?_
        rintro e w4 ⟨g, rfl, hi4, hB4, hg4⟩
        have HIN4 := Lib.hid hi4
        have HW4 : Hid (Below W.heap.size W w4) := Lib.hid (HWB.out.trans (hB4.mono HWB.out.size))
        have hgW : W.heap.size ≤ g := Nat.le_trans HWB.out.size hg4
        clear hi4 hB4
        have h0drop : l.drop 0 = l := rfl
        go_wp2_with fail
        go_loopw [28, 8, 9] (fun i _ _ wr => ∃ (k2 : Nat), k2 ≤ k ∧ i = .int .i64 k2 ∧ Hid (InAt wr g (laysAll (l.drop k2))) ∧ Hid (Below W.heap.size W wr)) (fun i _ _ _ => k - (intOf i).toNat)
        case atStart => exact ⟨0, Nat.zero_le _, rfl, HIN4, HW4⟩
        case round =>
          clear h0drop
          obtain ⟨k2, hk2, rfl, HIN, HW5⟩ := hrel
          by_cases hlt2 : k2 < k
          · have hkn : k2 < l.length := by rw [HL.out]; exact hlt2
            rcases HI.out.1 with h0 | ⟨b, off, rfl, hb, hc⟩
            · exfalso
              rw [h0] at hkn
              simp at hkn
            · obtain ⟨x, hx⟩ : ∃ x, l.getD k2 default = x := ⟨_, rfl⟩
              have hrange := hc k2 hkn
              rw [hx] at hrange
              have HRG := Lib.hid (rangeAt_below hrange HW5.out hb)
              have hok := HI.out.2 x (it_mem l k2 x hkn hx)
              have HTK := Lib.hid (laysAll_drop l k2 x hkn hx)
              have hbl : x.cells.length = 36 := x.size hok.d
              have HBS : Hid ((Try.prog.info? 31).map (·.size) = some x.cells.length) := Lib.hid (by rw [hbl]; exact info31)
              have HST : Hid ((Try.prog.info? 31).map (·.size) = some x.cells.toArray.size) := Lib.hid (by rw [List.size_toArray, hbl]; exact info31)
              have hz36 : zit.size = 36 := rfl
              have HSZ : Hid (zit.size = x.cells.toArray.size) := Lib.hid (by rw [hz36, List.size_toArray, hbl])
              have HAL : Hid (x.cells.toArray.all (·.oneCell') = true) := Lib.hid x.oneCells
              have HLA := Lib.hid (heap_alloc_last wr (.cells zit 31))
              have HOK := Lib.hid hok
              have hbr : b < wr.heap.size := Nat.lt_of_lt_of_le hb HW5.out.size
              have HN4 := Lib.hid (HALL.out x (it_mem l k2 x hkn hx))
              have HHD := Lib.hid (Held.new wr x hok.d)
              have b0 := hok.n0
              have b1 := hok.n1
              clear hc hx hrange hok hbl hz36
              unfold zit at HSZ HLA
              go_upto_region 14 with (first | (refine wpList_load_mid rfl 31 (.tmp 30) rfl b (off + k2 * 36) rfl x.cells _ HRG.out Try.underlying31 rfl HBS.out ?_) | (refine wpList_store_row rfl 31 (.tmp 8) (.tmp 31) rfl wr.heap.size x.cells.toArray rfl rfl 31 _ HLA.out HST.out HSZ.out HAL.out ?_; rw [World.setRow_alloc_new]))
              have HWX := Lib.hid (HW5.out.alloc HW5.out.size (.cells x.cells.toArray 31))
              have HIX := Lib.hid (HIN.out.below ((Below.refl _ _).alloc (Nat.le_refl _) (.cells x.cells.toArray 31)))
              have hgx : wr.heap.size < (wr.alloc (.cells x.cells.toArray 31)).heap.size := by simp
              have hgr : g < wr.heap.size := HIN.out.lt
              generalize wr.alloc (.cells x.cells.toArray 31) = wx at HHD HWX HIX hgx ⊢
              rw [HTK.out] at HIX
              have hk := HHD.out.k
              obtain ⟨rest, hrest⟩ : ∃ r, laysAll (l.drop (k2 + 1)) = r := ⟨_, rfl⟩
              rw [hrest] at HIX
              have HRS := Lib.hid hrest
              clear hrest HRG HLA HSZ HST HAL HBS
              by_cases h0 : x.K = 0
              · have hy : x.lays = [x.N % 256] := by simp [It.lays, h0]
                rw [hy] at HIX
                rw [h0] at hk
                clear hy
                have hn0 := HHD.out.n
                have HK : Hid (∀ X, wx.drew.grownBy X (some g) → X.cell? ⟨wr.heap.size, 1, none⟩ = some (.int .u64 x.N)) := Lib.hid fun X hX => (World.cell?_of_block (hX.block wr.heap.size hgx (by intro he; injection he; omega))).trans hn0
                have HCL : Hid (∀ X, InAt X g ([x.N % 256] ++ rest) → Calls Try.prog 20 #[.pointer (some ⟨g, 0, none⟩)] X fun r w' => r = .returned (.int .u8 (x.N % 256)) ∧ InAt w' g rest ∧ X.grownBy w' (some g)) := Lib.hid fun X hX => one_in g (x.N % 256) rest X (Lib.hid hX) (by omega) (by omega)
                go_wp2_with fail
                go_region_held3 (fun w' => w'.cell? ⟨wr.heap.size, 1, none⟩ = some (.int .u64 x.N)) (first | exact hn0 | exact HK.out _ hg1)
                  (first
                    | (go_at_call 20
                       ((with_reducible refine (HCL.out _ ?_).mono ?_))
                       · exact HIX.out.drewN 1
                       rintro e X1 ⟨rfl, hi1, hg1⟩))
                have HIN6 := Lib.hid hi1
                have HW6 : Hid (Below W.heap.size W X1) := Lib.hid (HWX.out.drew.grown hg1 HWX.out.size (fun g' hg' => by injection hg' with hg'; omega))
                rw [← HRS.out] at HIN6
                clear hi1 hg1 hk HIX hn0
                go_wp2_with fail
                refine (bad_any g _ X1 HIN6).mono ?_
                rintro e w' ⟨rfl, rfl⟩
                go_wp2
                go_roundw
                case rel => exact ⟨k2 + 1, by omega, by go_num, HIN6, HW6⟩
                case measure => simp [intOf]; omega
              by_cases h1 : x.K = 1
              · have hy : x.lays = be4 (x.N % 4294967296) := by simp [It.lays, h1]
                rw [hy] at HIX
                rw [h1] at hk
                clear hy h0
                have hn0 := HHD.out.n
                have HK : Hid (∀ X, wx.drew.grownBy X (some g) → X.cell? ⟨wr.heap.size, 1, none⟩ = some (.int .u64 x.N)) := Lib.hid fun X hX => (World.cell?_of_block (hX.block wr.heap.size hgx (by intro he; injection he; omega))).trans hn0
                have HCL : Hid (∀ X, InAt X g (be4 (x.N % 4294967296) ++ rest) → Calls Try.prog 21 #[.pointer (some ⟨g, 0, none⟩)] X fun r w' => r = .returned (.int .u32 (x.N % 4294967296)) ∧ InAt w' g rest ∧ X.grownBy w' (some g)) := Lib.hid fun X hX => four_in g (x.N % 4294967296) rest X (Lib.hid hX) (by omega) (by omega)
                go_wp2_with fail
                go_region_held3 (fun w' => w'.cell? ⟨wr.heap.size, 1, none⟩ = some (.int .u64 x.N)) (first | exact hn0 | exact HK.out _ hg1)
                  (first
                    | (go_at_call 21
                       ((with_reducible refine (HCL.out _ ?_).mono ?_))
                       · exact HIX.out.drewN 1
                       rintro e X1 ⟨rfl, hi1, hg1⟩))
                have HIN6 := Lib.hid hi1
                have HW6 : Hid (Below W.heap.size W X1) := Lib.hid (HWX.out.drew.grown hg1 HWX.out.size (fun g' hg' => by injection hg' with hg'; omega))
                rw [← HRS.out] at HIN6
                clear hi1 hg1 hk HIX hn0
                go_wp2_with fail
                refine (bad_any g _ X1 HIN6).mono ?_
                rintro e w' ⟨rfl, rfl⟩
                go_wp2
                go_roundw
                case rel => exact ⟨k2 + 1, by omega, by go_num, HIN6, HW6⟩
                case measure => simp [intOf]; omega
              by_cases h2 : x.K = 2
              · have hy : x.lays = be8 x.N := by simp [It.lays, h2]
                rw [hy] at HIX
                rw [h2] at hk
                clear hy h0 h1
                have hn0 := HHD.out.n
                have HK : Hid (∀ X, wx.drew.grownBy X (some g) → X.cell? ⟨wr.heap.size, 1, none⟩ = some (.int .u64 x.N)) := Lib.hid fun X hX => (World.cell?_of_block (hX.block wr.heap.size hgx (by intro he; injection he; omega))).trans hn0
                have HCL : Hid (∀ X, InAt X g (be8 x.N ++ rest) → Calls Try.prog 22 #[.pointer (some ⟨g, 0, none⟩)] X fun r w' => r = .returned (.int .u64 x.N) ∧ InAt w' g rest ∧ X.grownBy w' (some g)) := Lib.hid fun X hX => eight_in g x.N rest X (Lib.hid hX) b0 b1
                go_wp2_with fail
                go_region_held3 (fun w' => w'.cell? ⟨wr.heap.size, 1, none⟩ = some (.int .u64 x.N)) (first | exact hn0 | exact HK.out _ hg1)
                  (first
                    | (go_at_call 22
                       ((with_reducible refine (HCL.out _ ?_).mono ?_))
                       · exact HIX.out.drewN 1
                       rintro e X1 ⟨rfl, hi1, hg1⟩))
                have HIN6 := Lib.hid hi1
                have HW6 : Hid (Below W.heap.size W X1) := Lib.hid (HWX.out.drew.grown hg1 HWX.out.size (fun g' hg' => by injection hg' with hg'; omega))
                rw [← HRS.out] at HIN6
                clear hi1 hg1 hk HIX hn0
                go_wp2_with fail
                refine (bad_any g _ X1 HIN6).mono ?_
                rintro e w' ⟨rfl, rfl⟩
                go_wp2
                go_roundw
                case rel => exact ⟨k2 + 1, by omega, by go_num, HIN6, HW6⟩
                case measure => simp [intOf]; omega
              by_cases h3 : x.K = 3
              · have hy : x.lays = x.D := by simp [It.lays, h3]
                rw [hy] at HIX
                rw [h3] at hk
                clear hy h0 h1 h2
                have HD0 := Lib.hid HHD.out.d
                have hd0 := HD0.out
                have HK : Hid (∀ X, wx.drew.grownBy X (some g) → X.rangeAt wr.heap.size 2 (byt x.D)) := Lib.hid fun X hX => rangeAt_grown (W := wx.drew) HD0.out hX hgx (by intro he; injection he; omega)
                have HCL : Hid (∀ X, InAt X g (x.D ++ rest) → Calls Try.prog 23 #[.pointer (some ⟨g, 0, none⟩)] X fun r w' => r = .returned (.agg (byt x.D).toArray) ∧ InAt w' g rest ∧ X.grownBy w' (some g)) := Lib.hid fun X hX => sum_in g x.D rest X (Lib.hid hX) (Lib.hid HOK.out.d)
                have hu29 := Try.underlying29
                have hi29 : (Try.prog.info? 29).map (·.size) = some (byt x.D).length := by rw [show (byt x.D).length = 32 by simp [byt, HOK.out.d]]; exact info29
                have heq := eql_sum x.D HOK.out.d
                go_wp2_with fail
                go_region_held3 (fun w' => w'.rangeAt wr.heap.size 2 (byt x.D)) (first | exact hd0 | exact HK.out _ hg1)
                  (first
                    | (go_at_call 23
                       ((with_reducible refine (HCL.out _ ?_).mono ?_))
                       · exact HIX.out.drewN 1
                       rintro e X1 ⟨rfl, hi1, hg1⟩))
                have HIN6 := Lib.hid hi1
                have HW6 : Hid (Below W.heap.size W X1) := Lib.hid (HWX.out.drew.grown hg1 HWX.out.size (fun g' hg' => by injection hg' with hg'; omega))
                rw [← HRS.out] at HIN6
                clear hi1 hg1 hk HIX hd0 hu29 hi29 heq
                go_wp2_with fail
                refine (bad_any g _ X1 HIN6).mono ?_
                rintro e w' ⟨rfl, rfl⟩
                go_wp2
                go_roundw
                case rel => exact ⟨k2 + 1, by omega, by go_num, HIN6, HW6⟩
                case measure => simp [intOf]; omega
              by_cases h4 : x.K = 4
              · have hy : x.lays = be4 x.n ++ x.B := by simp [It.lays, h4]
                rw [hy, List.append_assoc] at HIX
                rw [h4] at hk
                clear hy h0 h1 h2 h3
                have hp0 := HHD.out.p
                have HSB : Hid (∀ X, Below W.heap.size W X → (convert 26 9 (.slice x.A x.n x.c)).run Try.prog X = .ok (.string (txt x.B)) X) := Lib.hid fun X hX => to_string26 X x.A x.c x.n x.B HOK.out.b.symm (HOK.out.s.below hX)
                have HK : Hid (∀ X, wx.drew.grownBy X (some g) → X.cell? ⟨wr.heap.size, 34, none⟩ = some (.slice x.A x.n x.c) ∧ (convert 26 9 (.slice x.A x.n x.c)).run Try.prog X = .ok (.string (txt x.B)) X) := Lib.hid fun X hX => ⟨(World.cell?_of_block (hX.block wr.heap.size hgx (by intro he; injection he; omega))).trans hp0, HSB.out X (HWX.out.drew.grown hX HWX.out.size (fun g' hg' => by injection hg' with hg'; omega))⟩
                have HCL : Hid (∀ X, InAt X g (be4 (x.n : Int) ++ (x.B ++ rest)) → Calls Try.prog 24 #[.pointer (some ⟨g, 0, none⟩), .int .i64 4096] X fun r w' => ∃ v, r = .returned v ∧ (convert 26 9 v).run Try.prog w' = .ok (.string (txt x.B)) w' ∧ InAt w' g rest ∧ X.grownBy w' (some g)) := Lib.hid fun X hX => by
                  refine (blob_in g x.n x.B rest X (Lib.hid hX) (Lib.hid HOK.out.b) HN4.out).mono ?_
                  rintro e w' ⟨A', c', rfl, hs', hi', hg'⟩
                  exact ⟨_, rfl, to_string26 w' A' c' x.n x.B HOK.out.b.symm hs', hi', hg'⟩
                have HS0 : Hid (wx.drew.cell? ⟨wr.heap.size, 34, none⟩ = some (.slice x.A x.n x.c) ∧ (convert 26 9 (.slice x.A x.n x.c)).run Try.prog wx.drew = .ok (.string (txt x.B)) wx.drew) := Lib.hid ⟨hp0, HSB.out _ HWX.out.drew⟩
                go_wp2_with fail
                refine wp_region_held_drew (S := fun w' => w'.cell? ⟨wr.heap.size, 34, none⟩ = some (.slice x.A x.n x.c) ∧ (convert 26 9 (.slice x.A x.n x.c)).run Try.prog w' = .ok (.string (txt x.B)) w') (by kernel_rfl) HS0.out (fun hHeld => ?_)
                refine wpAnyH_take (i := 0) (v := .pointer (some ⟨g, 0, none⟩)) rfl (by kernel_rfl) (by kernel_rfl) (by kernel_rfl) (fun _ _ _ h => h) (Or.inl ⟨by rfl, fun w _ => by rfl⟩) hHeld ?_
                show wpAnyH _ _ _ _ _ _ _ (Act.put _ (some 66) _) _
                simp only [Act.put, List.setIfInBounds_toArray, List.set_cons_zero, List.set_cons_succ]
                refine wpAnyH_take (i := 3) (v := .pointer (some ⟨wr.heap.size, 34, none⟩)) rfl (by kernel_rfl) (by kernel_rfl) (by kernel_rfl) (fun _ _ _ h => h) (Or.inl ⟨by rfl, by intro w hSw; go_simp⟩) hHeld ?_
                show wpAnyH _ _ _ _ _ _ _ (Act.put _ (some 69) _) _
                simp only [Act.put, List.setIfInBounds_toArray, List.set_cons_zero, List.set_cons_succ]
                refine wpAnyH_take (i := 4) (v := .slice x.A x.n x.c) rfl (by kernel_rfl) (by kernel_rfl) (by kernel_rfl) (fun _ _ _ h => h) (Or.inl ⟨by rfl, by intro w hSw; obtain ⟨y1, y2⟩ := hSw; go_simp⟩) hHeld ?_
                show wpAnyH _ _ _ _ _ _ _ (Act.put _ (some 70) _) _
                simp only [Act.put, List.setIfInBounds_toArray, List.set_cons_zero, List.set_cons_succ]
                refine wpAnyH_take (i := 5) (v := .string (txt x.B)) rfl (by kernel_rfl) (by kernel_rfl) (by kernel_rfl) (fun _ _ _ h => h) (Or.inl ⟨by rfl, by intro w hSw; obtain ⟨y1, y2⟩ := hSw; go_simp⟩) hHeld ?_
                show wpAnyH _ _ _ _ _ _ _ (Act.put _ (some 71) _) _
                simp only [Act.put, List.setIfInBounds_toArray, List.set_cons_zero, List.set_cons_succ]
                refine wpAnyH_ready (rs := [1]) (by kernel_rfl) (by simp) ?_
                refine AllReadyH.cons rfl (fun K hK => ?_) AllReadyH.nil
                refine step_call rfl 24 #[.tmp 66, .const (.int .i64 4096)] #[36, 3] rfl #[.pointer (some ⟨g, 0, none⟩), .int .i64 4096] (by simp [Act.eval]) (by go_simp) (HCL.out _ (HIX.out.drewN 1)) ?_
                rintro e X1 ⟨v5, rfl, hc5, hi1, hg1⟩
                refine ⟨_, rfl, hK.out _ _ (HK.out _ hg1) (fun hHeld => ?_)⟩
                clear hK K
                show wpAnyH _ _ _ _ _ _ _ (Act.put _ (some 67) _) _
                simp only [Act.put, List.setIfInBounds_toArray, List.set_cons_zero, List.set_cons_succ]
                refine wpAnyH_ready (rs := [2]) (by kernel_rfl) (by simp) ?_
                refine AllReadyH.cons rfl (fun K hK => ?_) AllReadyH.nil
                go_simp
                refine hK.out _ _ (HK.out _ hg1) (fun hHeld => ?_)
                clear hK K
                try simp only [Act.put, List.setIfInBounds_toArray, List.set_cons_zero, List.set_cons_succ]
                refine wpAnyH_take (i := 6) (v := .bool true) rfl (by kernel_rfl) (by kernel_rfl) (by kernel_rfl) (fun _ _ _ h => h) (Or.inl ⟨by rfl, by intro w hSw; go_simp⟩) hHeld ?_
                show wpAnyH _ _ _ _ _ _ _ (Act.put _ (some 72) _) _
                simp only [Act.put, List.setIfInBounds_toArray, List.set_cons_zero, List.set_cons_succ]
                refine wpAnyH_take (i := 7) (v := .bool true) rfl (by kernel_rfl) (by kernel_rfl) (by kernel_rfl) (fun _ _ _ h => h) (Or.inl ⟨by rfl, fun w _ => by rfl⟩) hHeld ?_
                show wpAnyH _ _ _ _ _ _ _ (Act.put _ (some 9) _) _
                simp only [Act.put, List.setIfInBounds_toArray, List.set_cons_zero, List.set_cons_succ]
                refine wpAnyH_done (by kernel_rfl) ?_ _
                clear hHeld hc5
                have HIN6 := Lib.hid hi1
                have HW6 : Hid (Below W.heap.size W X1) := Lib.hid (HWX.out.drew.grown hg1 HWX.out.size (fun g' hg' => by injection hg' with hg'; omega))
                rw [← HRS.out] at HIN6
                clear hi1 hg1 hk HIX hp0
                go_wp2_with fail
                refine (bad_any g _ X1 HIN6).mono ?_
                rintro e w' ⟨rfl, rfl⟩
                go_wp2
                go_roundw
                case rel => exact ⟨k2 + 1, by omega, by go_num, HIN6, HW6⟩
                case measure => simp [intOf]; omega
              · have hy : x.lays = [] := by simp [It.lays, h0, h1, h2, h3, h4]
                rw [hy, List.nil_append] at HIX
                have h0' : (x.K == 0) = false := by simp [h0]
                have h1' : (x.K == 1) = false := by simp [h1]
                have h2' : (x.K == 2) = false := by simp [h2]
                have h3' : (x.K == 3) = false := by simp [h3]
                have h4' : (x.K == 4) = false := by simp [h4]
                rw [← HRS.out] at HIX
                clear hy
                go_wp2_with fail
                refine (bad_any g _ wx HIX).mono ?_
                rintro e w' ⟨rfl, rfl⟩
                go_wp2
                go_roundw
                case rel => exact ⟨k2 + 1, by omega, by go_num, HIX, HWX⟩
                case measure => clear h0' h1' h2' h3' h4'; simp [intOf]; omega
          · obtain rfl : k2 = k := by omega
            have hdn : l.drop k2 = [] := List.drop_eq_nil_of_le (by rw [HL.out]; exact Nat.le_refl _)
            rw [hdn] at HIN
            clear hdn
            have HIN0 : Hid (InAt wr g []) := HIN
            go_wp2_with fail
            refine (awake1_any _).mono ?_
            rintro e w6 ⟨rfl, hB6⟩
            have HIN7 := Lib.hid (HIN0.out.below hB6)
            have HW7 : Hid (Below W.heap.size W w6) := Lib.hid (HW5.out.trans (hB6.mono HW5.out.size))
            clear hB6
            go_wp2_with fail
            refine (end_any g w6 HIN7).mono ?_
            rintro e w' ⟨rfl, rfl⟩
            go_wp2
            go_ret
            exact ⟨rfl, HW7.out⟩
end Go.Proofs.Ytneacogenjlhgaa
