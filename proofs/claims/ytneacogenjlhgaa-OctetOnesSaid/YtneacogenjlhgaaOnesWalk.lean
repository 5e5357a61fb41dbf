/-
  The walk of tollhouselaw01.OctetOnes: it returns true, and nothing that was there is written.
-/
import Derived.Test.YtneacogenjlhgaaOnesLib
namespace Go.Proofs.Ytneacogenjlhgaa.octetOnes
open Go.ChangeShapes Go.WideShapes Go.ChangeAt Go.RowKit
set_option linter.unusedVariables false
set_option linter.unusedSimpArgs false

/-- What a walk is told of the four lists. -/
structure Lists (w : World) (A1 A2 A3 A4 : Option Addr) (n1 n2 n3 n4 c1 c2 c3 c4 : Nat) (l1 l2 l3 : List Int) (l4 : List (List Int)) : Prop where
  s1 : Src w A1 c1 l1
  s2 : Rd .u32 w A2 l2
  s3 : Rd .u64 w A3 l3
  s4 : Digs w A4 l4
  e1 : l1.length = n1
  e2 : l2.length = n2
  e3 : l3.length = n3
  e4 : l4.length = n4
  b2 : ∀ n ∈ l2, 0 ≤ n ∧ n ≤ 4294967295
  b3 : ∀ n ∈ l3, 0 ≤ n ∧ n ≤ 18446744073709551615
  m1 : n1 ≤ 140737488355328
  m2 : n2 ≤ 140737488355328
  m3 : n3 ≤ 140737488355328
  m4 : n4 ≤ 140737488355328

set_option maxRecDepth 100000 in
set_option maxHeartbeats 4000000 in
theorem walk (A1 A2 A3 A4 : Option Addr) (n1 n2 n3 n4 c1 c2 c3 c4 : Nat) (l1 l2 l3 : List Int) (l4 : List (List Int)) (w : World) (hL : Lists w A1 A2 A3 A4 n1 n2 n3 n4 c1 c2 c3 c4 l1 l2 l3 l4) :
    Calls Try.prog 6 #[.slice A1 n1 c1, .slice A2 n2 c2, .slice A3 n3 c3, .slice A4 n4 c4] w fun e w' => e = .returned (.bool true) ∧ Below w.heap.size w w' := by
  have HS := Lib.hid hL
  have m1 := hL.m1
  have m2 := hL.m2
  have m3 := hL.m3
  have m4 := hL.m4
  clear hL
  by_cases h4000 : n1 + n2 + n3 + n4 ≤ 4000
  · have k1 : (n1 : Int) + n2 + n3 + n4 ≤ 4000 := by omega
    go_enter Try.func6, Try.ntmps6
    go_wp2_with fail
    clear m1 m2 m3 m4
    go_loopw [10, 36, 12] (fun t i _ wr => ∃ (k : Nat), k ≤ n1 ∧ i = .int .i64 k ∧ Hid (Own wr w.heap.size t (l1.take k)) ∧ Hid (Below w.heap.size w wr)) (fun _ i _ _ => n1 - (intOf i).toNat)
    case atStart => exact ⟨0, Nat.zero_le _, rfl, Lib.hid (World.ownsRow_lit w #[] 0 (Nat.le_refl _) (by unfold maxLen; omega) rfl), Lib.hid ((Below.refl _ _).alloc (Nat.le_refl _) _)⟩
    case round =>
      obtain ⟨k, hk, rfl, HT, HB⟩ := hrel
      by_cases hlt : k < n1
      · have hkn : k < l1.length := by rw [HS.out.e1]; exact hlt
        rcases HS.out.s1.2 with h0 | ⟨b, off, rfl, hb, hc⟩
        · exfalso
          rw [h0] at hkn
          simp at hkn
        · obtain ⟨x, hx⟩ : ∃ x, l1.getD k 0 = x := ⟨_, rfl⟩
          have hcell := hc k hkn
          rw [hx] at hcell
          rw [← HB.out.cell (p := ⟨b, off + k, none⟩) hb] at hcell
          have hbr : b < wr.heap.size := Nat.lt_of_lt_of_le hb HB.out.size
          have HTK := Lib.hid (take_snoc l1 k x hkn hx)
          have HLN : Hid ((l1.take k).length ≤ 4000) := Lib.hid (by rw [List.length_take]; omega)
          clear hc hx
          go_wp2_with fail
          have h5 := one_any _ _ 1 w.heap.size (l1.take k) [x] _ (HT.out.below ((Below.refl _ _).alloc (Nat.le_refl _) (.cells #[.int .u8 x] 5))) (Src.one wr x) (by have := HLN.out; simp; omega) (by have := HB.out.size; simp; omega)
          rw [show ([x] : List Int).length = 1 from rfl] at h5
          ((with_reducible refine h5.mono ?_))
          clear h5
          rintro e w' ⟨v', rfl, hO', hg, hL⟩
          have HB2 := Lib.hid (Laid.keep (HB.out.alloc HB.out.size _) (HT.out.below ((Below.refl _ _).alloc (Nat.le_refl _) _)) (by have := HB.out.size; simp; omega) hg)
          rw [HTK.out] at hO'
          have HT2 := Lib.hid hO'
          clear hO' hg hL hkn
          go_wp2
          go_roundw
          case rel => exact ⟨k + 1, by omega, by go_num, HT2, HB2⟩
          case measure => simp [intOf]; omega
      · have htk : l1.take k = l1 := List.take_of_length_le (by rw [HS.out.e1]; omega)
        rw [htk] at HT
        clear htk
        go_wp2_with fail
        go_loopw [10, 47, 14] (fun t i _ wr => ∃ (k : Nat), k ≤ n2 ∧ i = .int .i64 k ∧ Hid (Own wr w.heap.size t (l1 ++ be4s (l2.take k))) ∧ Hid (Below w.heap.size w wr)) (fun _ i _ _ => n2 - (intOf i).toNat)
        case atStart => exact ⟨0, Nat.zero_le _, rfl, Lib.hid (by have := HT.out; simpa [be4s] using this), HB⟩
        case round =>
          clear HT HB
          obtain ⟨k, hk, rfl, HT, HB⟩ := hrel
          by_cases hlt : k < n2
          · have hkn : k < l2.length := by rw [HS.out.e2]; exact hlt
            rcases HS.out.s2 with h0 | ⟨b, off, rfl, hb, hc⟩
            · exfalso
              rw [h0] at hkn
              simp at hkn
            · obtain ⟨x, hx⟩ : ∃ x, l2.getD k 0 = x := ⟨_, rfl⟩
              have hcell := hc k hkn
              rw [hx] at hcell
              rw [← HB.out.cell (p := ⟨b, off + k, none⟩) hb] at hcell
              have hbr : b < wr.heap.size := Nat.lt_of_lt_of_le hb HB.out.size
              have HTK := Lib.hid (be4s_take l2 k x hkn hx)
              have HLN : Hid ((l1 ++ be4s (l2.take k)).length ≤ 40000) := Lib.hid (by have := HS.out.e1; have := HS.out.e2; have := HS.out.e3; simp [be4s_length, be8s_length, List.length_take]; omega)
              have hbx : ∀ n ∈ [x], 0 ≤ n ∧ n ≤ 4294967295 := by
                intro n hn
                rcases List.mem_singleton.1 hn with rfl
                exact HS.out.b2 _ (mem_getD l2 k _ hkn hx)
              have HBX := Lib.hid hbx
              clear hc hx hbx
              go_wp2_with fail
              have h5 := four_any _ _ 1 w.heap.size (l1 ++ be4s (l2.take k)) [x] _ (HT.out.below ((Below.refl _ _).alloc (Nat.le_refl _) (.cells #[.int .u32 x] 39))) (Rd.lit .u32 39 wr #[.int .u32 x] [x] rfl) HBX.out (by have := HLN.out; simp only [List.length_cons, List.length_nil]; omega) (by have := HB.out.size; simp; omega)
              rw [show ([x] : List Int).length = 1 from rfl, be4s_one, List.append_assoc, HTK.out] at h5
              ((with_reducible refine h5.mono ?_))
              clear h5
              rintro e w' ⟨v', rfl, hO', hg, hL⟩
              have HB2 := Lib.hid (Laid.keep (HB.out.alloc HB.out.size _) (HT.out.below ((Below.refl _ _).alloc (Nat.le_refl _) _)) (by have := HB.out.size; simp; omega) hg)
              have HT2 := Lib.hid hO'
              clear hO' hg hL hkn
              go_wp2
              go_roundw
              case rel => exact ⟨k + 1, by omega, by go_num, HT2, HB2⟩
              case measure => simp [intOf]; omega
          · have htk : l2.take k = l2 := List.take_of_length_le (by rw [HS.out.e2]; omega)
            rw [htk] at HT
            clear htk
            go_wp2_with fail
            go_loopw [10, 58, 16] (fun t i _ wr => ∃ (k : Nat), k ≤ n3 ∧ i = .int .i64 k ∧ Hid (Own wr w.heap.size t ((l1 ++ be4s l2) ++ be8s (l3.take k))) ∧ Hid (Below w.heap.size w wr)) (fun _ i _ _ => n3 - (intOf i).toNat)
            case atStart => exact ⟨0, Nat.zero_le _, rfl, Lib.hid (by have := HT.out; simpa [be8s] using this), HB⟩
            case round =>
              clear HT HB
              obtain ⟨k, hk, rfl, HT, HB⟩ := hrel
              by_cases hlt : k < n3
              · have hkn : k < l3.length := by rw [HS.out.e3]; exact hlt
                rcases HS.out.s3 with h0 | ⟨b, off, rfl, hb, hc⟩
                · exfalso
                  rw [h0] at hkn
                  simp at hkn
                · obtain ⟨x, hx⟩ : ∃ x, l3.getD k 0 = x := ⟨_, rfl⟩
                  have hcell := hc k hkn
                  rw [hx] at hcell
                  rw [← HB.out.cell (p := ⟨b, off + k, none⟩) hb] at hcell
                  have hbr : b < wr.heap.size := Nat.lt_of_lt_of_le hb HB.out.size
                  have HTK := Lib.hid (be8s_snoc l3 k x hkn hx)
                  have HLN : Hid (((l1 ++ be4s l2) ++ be8s (l3.take k)).length ≤ 40000) := Lib.hid (by have := HS.out.e1; have := HS.out.e2; have := HS.out.e3; simp [be4s_length, be8s_length, List.length_take]; omega)
                  have hbx : ∀ n ∈ [x], 0 ≤ n ∧ n ≤ 18446744073709551615 := by
                    intro n hn
                    rcases List.mem_singleton.1 hn with rfl
                    exact HS.out.b3 _ (mem_getD l3 k _ hkn hx)
                  have HBX := Lib.hid hbx
                  clear hc hx hbx
                  go_wp2_with fail
                  have h5 := eight_any _ _ 1 w.heap.size ((l1 ++ be4s l2) ++ be8s (l3.take k)) [x] _ (HT.out.below ((Below.refl _ _).alloc (Nat.le_refl _) (.cells #[.int .u64 x] 28))) (Rd.lit .u64 28 wr #[.int .u64 x] [x] rfl) HBX.out (by have := HLN.out; simp only [List.length_cons, List.length_nil]; omega) (by have := HB.out.size; simp; omega)
                  rw [show ([x] : List Int).length = 1 from rfl, be8s_one, List.append_assoc, HTK.out] at h5
                  ((with_reducible refine h5.mono ?_))
                  clear h5
                  rintro e w' ⟨v', rfl, hO', hg, hL⟩
                  have HB2 := Lib.hid (Laid.keep (HB.out.alloc HB.out.size _) (HT.out.below ((Below.refl _ _).alloc (Nat.le_refl _) _)) (by have := HB.out.size; simp; omega) hg)
                  have HT2 := Lib.hid hO'
                  clear hO' hg hL hkn
                  go_wp2
                  go_roundw
                  case rel => exact ⟨k + 1, by omega, by go_num, HT2, HB2⟩
                  case measure => simp [intOf]; omega
              · have htk : l3.take k = l3 := List.take_of_length_le (by rw [HS.out.e3]; omega)
                rw [htk] at HT
                clear htk
                go_wp2_with fail
                go_loopw [10, 9, 69, 18] (fun t u i _ wr => ∃ (k : Nat), k ≤ n4 ∧ i = .int .i64 k ∧ Hid (Own wr w.heap.size t (l1 ++ be4s l2 ++ be8s l3 ++ digs (l4.take k))) ∧ Hid (wr.ownsRow w.heap.size 42 32 u k (byt (digs (l4.take k)))) ∧ Hid (Apart t u) ∧ Hid (Below w.heap.size w wr)) (fun _ _ i _ _ => n4 - (intOf i).toNat)
                case atStart => exact ⟨0, Nat.zero_le _, rfl, Lib.hid (by have := HT.out; simpa [digs] using this), Lib.hid (World.ownsRow_nil _ _ _ _), Lib.hid (fun g _ => by simp [Value.ownBlock]), HB⟩
                case round =>
                  clear HT HB
                  obtain ⟨k, hk, rfl, HT, HU, HA, HB⟩ := hrel
                  by_cases hlt : k < n4
                  · have hkn : k < l4.length := by rw [HS.out.e4]; exact hlt
                    rcases HS.out.s4.1 with h0 | ⟨b, off, rfl, hb, hc⟩
                    · exfalso
                      rw [h0] at hkn
                      simp at hkn
                    · obtain ⟨x, hx⟩ : ∃ x, l4.getD k [] = x := ⟨_, rfl⟩
                      have hrange := hc k hkn
                      rw [hx] at hrange
                      have HRG := Lib.hid (rangeAt_below hrange HB.out hb)
                      have hx32 : x.length = 32 := HS.out.s4.2 x (dig_mem l4 k x hkn hx)
                      have HTK := Lib.hid (digs_take l4 k x hkn hx)
                      have hbl : (byt x).length = 32 := by simp [byt, hx32]
                      have HBS : Hid ((Try.prog.info? 29).map (·.size) = some (byt x).length) := Lib.hid (by rw [hbl]; exact info29)
                      have HST : Hid ((Try.prog.info? 29).map (·.size) = some (byt x).toArray.size) := Lib.hid (by rw [List.size_toArray, hbl]; exact info29)
                      have hbt : (byt x).toArray.size = 32 := by rw [List.size_toArray, hbl]
                      have hsz : zeros.size = 32 := by simp [zeros]
                      have HSZ : Hid ((#[.int .u8 0, .int .u8 0, .int .u8 0, .int .u8 0, .int .u8 0, .int .u8 0, .int .u8 0, .int .u8 0, .int .u8 0, .int .u8 0, .int .u8 0, .int .u8 0, .int .u8 0, .int .u8 0, .int .u8 0, .int .u8 0, .int .u8 0, .int .u8 0, .int .u8 0, .int .u8 0, .int .u8 0, .int .u8 0, .int .u8 0, .int .u8 0, .int .u8 0, .int .u8 0, .int .u8 0, .int .u8 0, .int .u8 0, .int .u8 0, .int .u8 0, .int .u8 0] : Array Value).size = (byt x).toArray.size) := Lib.hid (hsz.trans hbt.symm)
                      have HAL : Hid ((byt x).toArray.all (·.oneCell') = true) := Lib.hid (all_oneCell_toArray (by intro v hv; obtain ⟨n, _, rfl⟩ := List.mem_map.1 hv; rfl))
                      have HLA := Lib.hid (heap_alloc_last wr (.cells #[.int .u8 0, .int .u8 0, .int .u8 0, .int .u8 0, .int .u8 0, .int .u8 0, .int .u8 0, .int .u8 0, .int .u8 0, .int .u8 0, .int .u8 0, .int .u8 0, .int .u8 0, .int .u8 0, .int .u8 0, .int .u8 0, .int .u8 0, .int .u8 0, .int .u8 0, .int .u8 0, .int .u8 0, .int .u8 0, .int .u8 0, .int .u8 0, .int .u8 0, .int .u8 0, .int .u8 0, .int .u8 0, .int .u8 0, .int .u8 0, .int .u8 0, .int .u8 0] 29))
                      have HX32 := Lib.hid hx32
                      have HLN : Hid ((l1 ++ be4s l2 ++ be8s l3 ++ digs (l4.take k)).length ≤ 1000000) := Lib.hid (by have := HS.out.e1; have := HS.out.e2; have := HS.out.e3; simp [be4s_length, be8s_length, digs_length (l4.take k) fun d hd => HS.out.s4.2 d (List.mem_of_mem_take hd)]; omega)
                      have hbr : b < wr.heap.size := Nat.lt_of_lt_of_le hb HB.out.size
                      clear hc hx hrange hx32 hbl hbt hsz
                      go_wp2_with (first | (refine wpList_load_mid rfl 29 (.tmp 71) rfl b (off + k * 32) rfl (byt x) _ HRG.out Try.underlying29 rfl HBS.out ?_) | (refine wpList_store_row rfl 29 (.tmp 18) (.tmp 72) rfl wr.heap.size (byt x).toArray rfl rfl 29 _ HLA.out HST.out HSZ.out HAL.out ?_; rw [World.setRow_alloc_new]))
                      have hW1 := heap_alloc_last wr (.cells (byt x).toArray 29)
                      have HOt := Lib.hid (HT.out.below ((Below.refl _ _).alloc (Nat.le_refl _) (.cells (byt x).toArray 29)))
                      have HOu := Lib.hid (own42_up HU.out ((Below.refl _ _).alloc (Nat.le_refl _) (.cells (byt x).toArray 29)))
                      have HBW := Lib.hid (HB.out.alloc HB.out.size (.cells (byt x).toArray 29))
                      have ht : ∀ g, u10.ownBlock = some g → g < wr.heap.size := fun g hg => (World.ownsRow.lt HT.out g hg).2
                      have hu : ∀ g, u9.ownBlock = some g → g < wr.heap.size := fun g hg => (World.ownsRow.lt HU.out g hg).2
                      have hsz1 : wr.heap.size < (wr.alloc (.cells (byt x).toArray 29)).heap.size := by simp
                      have hrb : (wr.alloc (.cells (byt x).toArray 29)).rangeAt wr.heap.size 0 (byt x) := by
                        have := World.rangeAt_of_block hW1 0 (byt x).length
                        simpa using this
                      simp only [Act.put]
                      generalize wr.alloc (.cells (byt x).toArray 29) = W1 at *
                      clear HT HU HB HRG HLA hbr hW1 HST HSZ
                      generalize wr.heap.size = bx at *
                      have hu29 := Try.underlying29
                      have hbl : (byt x).length = 32 := by have := HX32.out; simp [byt, this]
                      obtain ⟨i0, hi, hz0, hz1, hz2⟩ := info_parts sum_info
                      have HI := Lib.hid (Inv.mk (w := w) (W := W1.drew) (bx := bx) (x := x) HOt.out HOu.out HA.out HBW.out.drew hrb (fun hg => absurd (ht _ hg) (Nat.lt_irrefl _)) (fun hg => absurd (hu _ hg) (Nat.lt_irrefl _)) hsz1 HBW.out.size)
                      clear HOt HOu HA HBW ht hu hsz1
                      refine wp_region_held_drew (S := fun w' => w'.rangeAt bx 0 (byt x)) (by kernel_rfl) hrb (fun hHeld => ?_)
                      clear hrb
                      generalize W1.drew = W at *
                      refine wpAnyH_take (i := 0) (v := u10) rfl (by kernel_rfl) (by kernel_rfl) (by kernel_rfl) (fun _ _ _ h => h) (Or.inl ⟨by rfl, fun w _ => by rfl⟩) hHeld ?_
                      show wpAnyH _ _ _ _ _ _ _ (Act.put _ (some 73) _) _
                      simp only [Act.put, List.setIfInBounds_toArray, List.set_cons_zero, List.set_cons_succ]
                      refine wpAnyH_take (i := 4) (v := u9) rfl (by kernel_rfl) (by kernel_rfl) (by kernel_rfl) (fun _ _ _ h => h) (Or.inl ⟨by rfl, fun w _ => by rfl⟩) hHeld ?_
                      show wpAnyH _ _ _ _ _ _ _ (Act.put _ (some 77) _) _
                      simp only [Act.put, List.setIfInBounds_toArray, List.set_cons_zero, List.set_cons_succ]
                      refine wpAnyH_take (i := 1) (v := .agg (byt x).toArray) rfl (by kernel_rfl) (by kernel_rfl) (by kernel_rfl) (fun _ _ _ h => h) (yieldsIf_load_mid (by rfl) 29 (.tmp 18) rfl bx 0 rfl (byt x) _ (fun _ h => h) hu29 rfl HBS.out) hHeld ?_
                      show wpAnyH _ _ _ _ _ _ _ (Act.put _ (some 74) _) _
                      simp only [Act.put, List.setIfInBounds_toArray, List.set_cons_zero, List.set_cons_succ]
                      refine wpAnyH_take (i := 5) (v := .agg (byt x).toArray) rfl (by kernel_rfl) (by kernel_rfl) (by kernel_rfl) (fun _ _ _ h => h) (yieldsIf_load_mid (by rfl) 29 (.tmp 18) rfl bx 0 rfl (byt x) _ (fun _ h => h) hu29 rfl HBS.out) hHeld ?_
                      show wpAnyH _ _ _ _ _ _ _ (Act.put _ (some 78) _) _
                      simp only [Act.put, List.setIfInBounds_toArray, List.set_cons_zero, List.set_cons_succ]
                      refine wpAnyH_ready (rs := [2, 6]) (by kernel_rfl) (by simp) ?_
                      refine AllReadyH.cons rfl (fun K hK => ?_) (AllReadyH.cons rfl (fun K hK => ?_) AllReadyH.nil)
                      · skip
                        refine step_build 74 x rfl rfl rfl hbl ?_
                        have HI1 := Lib.hid (HI.out.alloc (.cells (byt x).toArray 42))
                        have HK1 := Lib.hid HI.out.blk
                        obtain ⟨g1, hg1⟩ : ∃ g, W.heap.size = g := ⟨_, rfl⟩
                        rw [hg1] at HK1
                        rw [hg1]
                        generalize W.alloc (.cells (byt x).toArray 42) = W1 at *
                        refine hK.out _ _ HI1.out.rg (fun hHeld => ?_)
                        clear hK K
                        show wpAnyH _ _ _ _ _ _ _ (Act.put _ (some 75) _) _
                        simp only [Act.put, List.setIfInBounds_toArray, List.set_cons_zero, List.set_cons_succ]
                        refine wpAnyH_ready (rs := [3, 6]) (by kernel_rfl) (by simp) ?_
                        refine AllReadyH.cons rfl (fun K hK => ?_) (AllReadyH.cons rfl (fun K hK => ?_) AllReadyH.nil)
                        · skip
                          refine step_call2 73 75 27 53 u10 (.slice (some ⟨g1, 0, none⟩) 1 1) rfl rfl rfl rfl (outsum_one u10 g1 w.heap.size (l1 ++ be4s l2 ++ be8s l3 ++ digs (l4.take k)) x W1 HI1.out.own HK1.out.holds HX32.out HLN.out HI1.out.le) ?_
                          rintro e W2 ⟨v', rfl, hO', hgr, hL⟩
                          have HI2 := Lib.hid (HI1.out.sum hO' hgr hL)
                          have HK12 := Lib.hid (HK1.out.sum hgr hL)
                          clear hO' hgr hL
                          refine ⟨v', rfl, hK.out _ _ HI2.out.rg (fun hHeld => ?_)⟩
                          clear hK K
                          show wpAnyH _ _ _ _ _ _ _ (Act.put _ (some 76) _) _
                          simp only [Act.put, List.setIfInBounds_toArray, List.set_cons_zero, List.set_cons_succ]
                          refine wpAnyH_ready (rs := [6]) (by kernel_rfl) (by simp) ?_
                          refine AllReadyH.cons rfl (fun K hK => ?_) AllReadyH.nil
                          refine step_build 78 x rfl rfl rfl hbl ?_
                          have HI3 := Lib.hid (HI2.out.alloc (.cells (byt x).toArray 42))
                          have HK123 := Lib.hid (HK12.out.alloc (.cells (byt x).toArray 42))
                          have HK3 := Lib.hid HI2.out.blk
                          obtain ⟨g3, hg3⟩ : ∃ g, W2.heap.size = g := ⟨_, rfl⟩
                          rw [hg3] at HK3
                          rw [hg3]
                          generalize W2.alloc (.cells (byt x).toArray 42) = W3 at *
                          refine hK.out _ _ HI3.out.rg (fun hHeld => ?_)
                          clear hK K
                          show wpAnyH _ _ _ _ _ _ _ (Act.put _ (some 79) _) _
                          simp only [Act.put, List.setIfInBounds_toArray, List.set_cons_zero, List.set_cons_succ]
                          refine wpAnyH_ready (rs := [7]) (by kernel_rfl) (by simp) ?_
                          refine AllReadyH.cons rfl (fun K hK => ?_) AllReadyH.nil
                          refine step_append_lies _ rfl (.tmp 77) (.tmp 79) 53 rfl w.heap.size 42 i0 (.agg zeros) 32 32 Try.underlying53 hi hz0 hz1 hz2 zeros_cells (by decide) u9 k _ rfl HI3.out.row ⟨g3, 0, none⟩ 1 1 (byt x) rfl (by rw [hbl]) (World.news_of_block HK3.out.holds) (by intro v hv; obtain ⟨n, _, rfl⟩ := List.mem_map.1 hv; rfl) (by decide) (by unfold maxLen; omega) (by omega) HI3.out.le _ rfl ?_
                          intro gn cap W' hO' hgr hL hlt'
                          rw [byt_append, HTK.out] at hO'
                          have HF := Lib.hid (HI3.out.app hO' hgr hL)
                          clear hO' hgr hL hlt'
                          refine hK.out _ _ HF.out.rg (fun hHeld => ?_)
                          clear hK K
                          show wpAnyH _ _ _ _ _ _ _ (Act.put _ (some 80) _) _
                          simp only [Act.put, List.setIfInBounds_toArray, List.set_cons_zero, List.set_cons_succ]
                          refine wpAnyH_take (i := 8) (v := _) rfl (by kernel_rfl) (by kernel_rfl) (by kernel_rfl) (fun _ _ _ h => h) (Or.inl ⟨by rfl, fun w _ => by rfl⟩) hHeld ?_
                          show wpAnyH _ _ _ _ _ _ _ (Act.put _ (some 10) _) _
                          simp only [Act.put, List.setIfInBounds_toArray, List.set_cons_zero, List.set_cons_succ]
                          refine wpAnyH_take (i := 9) (v := _) rfl (by kernel_rfl) (by kernel_rfl) (by kernel_rfl) (fun _ _ _ h => h) (Or.inl ⟨by rfl, fun w _ => by rfl⟩) hHeld ?_
                          show wpAnyH _ _ _ _ _ _ _ (Act.put _ (some 9) _) _
                          simp only [Act.put, List.setIfInBounds_toArray, List.set_cons_zero, List.set_cons_succ]
                          refine wpAnyH_done (by kernel_rfl) ?_ _
                          have HT2 : Hid (Own W' w.heap.size v' (l1 ++ be4s l2 ++ be8s l3 ++ digs (l4.take (k + 1)))) := Lib.hid (by have := HF.out.own; rw [List.append_assoc, HTK.out] at this; exact this)
                          have HU2 := Lib.hid HF.out.row
                          have HA2 := Lib.hid HF.out.ap
                          have HB2 := Lib.hid HF.out.bel
                          go_wp2
                          go_roundw
                          case rel => exact ⟨k + 1, by omega, by go_num, HT2, HU2, HA2, HB2⟩
                          case measure => simp [intOf]; omega
                        · skip
                          refine step_build 78 x rfl rfl rfl hbl ?_
                          have HI4 := Lib.hid (HI1.out.alloc (.cells (byt x).toArray 42))
                          have HK14 := Lib.hid (HK1.out.alloc (.cells (byt x).toArray 42))
                          have HK4 := Lib.hid HI1.out.blk
                          obtain ⟨g4, hg4⟩ : ∃ g, W1.heap.size = g := ⟨_, rfl⟩
                          rw [hg4] at HK4
                          rw [hg4]
                          generalize W1.alloc (.cells (byt x).toArray 42) = W4 at *
                          refine hK.out _ _ HI4.out.rg (fun hHeld => ?_)
                          clear hK K
                          show wpAnyH _ _ _ _ _ _ _ (Act.put _ (some 79) _) _
                          simp only [Act.put, List.setIfInBounds_toArray, List.set_cons_zero, List.set_cons_succ]
                          refine wpAnyH_ready (rs := [3]) (by kernel_rfl) (by simp) ?_
                          refine AllReadyH.cons rfl (fun K hK => ?_) AllReadyH.nil
                          refine step_call2 73 75 27 53 u10 (.slice (some ⟨g1, 0, none⟩) 1 1) rfl rfl rfl rfl (outsum_one u10 g1 w.heap.size (l1 ++ be4s l2 ++ be8s l3 ++ digs (l4.take k)) x W4 HI4.out.own HK14.out.holds HX32.out HLN.out HI4.out.le) ?_
                          rintro e W5 ⟨v', rfl, hO', hgr, hL⟩
                          have HI5 := Lib.hid (HI4.out.sum hO' hgr hL)
                          have HK145 := Lib.hid (HK14.out.sum hgr hL)
                          have HK45 := Lib.hid (HK4.out.sum hgr hL)
                          clear hO' hgr hL
                          refine ⟨v', rfl, hK.out _ _ HI5.out.rg (fun hHeld => ?_)⟩
                          clear hK K
                          show wpAnyH _ _ _ _ _ _ _ (Act.put _ (some 76) _) _
                          simp only [Act.put, List.setIfInBounds_toArray, List.set_cons_zero, List.set_cons_succ]
                          refine wpAnyH_ready (rs := [7]) (by kernel_rfl) (by simp) ?_
                          refine AllReadyH.cons rfl (fun K hK => ?_) AllReadyH.nil
                          refine step_append_lies _ rfl (.tmp 77) (.tmp 79) 53 rfl w.heap.size 42 i0 (.agg zeros) 32 32 Try.underlying53 hi hz0 hz1 hz2 zeros_cells (by decide) u9 k _ rfl HI5.out.row ⟨g4, 0, none⟩ 1 1 (byt x) rfl (by rw [hbl]) (World.news_of_block HK45.out.holds) (by intro v hv; obtain ⟨n, _, rfl⟩ := List.mem_map.1 hv; rfl) (by decide) (by unfold maxLen; omega) (by omega) HI5.out.le _ rfl ?_
                          intro gn cap W' hO' hgr hL hlt'
                          rw [byt_append, HTK.out] at hO'
                          have HF := Lib.hid (HI5.out.app hO' hgr hL)
                          clear hO' hgr hL hlt'
                          refine hK.out _ _ HF.out.rg (fun hHeld => ?_)
                          clear hK K
                          show wpAnyH _ _ _ _ _ _ _ (Act.put _ (some 80) _) _
                          simp only [Act.put, List.setIfInBounds_toArray, List.set_cons_zero, List.set_cons_succ]
                          refine wpAnyH_take (i := 8) (v := _) rfl (by kernel_rfl) (by kernel_rfl) (by kernel_rfl) (fun _ _ _ h => h) (Or.inl ⟨by rfl, fun w _ => by rfl⟩) hHeld ?_
                          show wpAnyH _ _ _ _ _ _ _ (Act.put _ (some 10) _) _
                          simp only [Act.put, List.setIfInBounds_toArray, List.set_cons_zero, List.set_cons_succ]
                          refine wpAnyH_take (i := 9) (v := _) rfl (by kernel_rfl) (by kernel_rfl) (by kernel_rfl) (fun _ _ _ h => h) (Or.inl ⟨by rfl, fun w _ => by rfl⟩) hHeld ?_
                          show wpAnyH _ _ _ _ _ _ _ (Act.put _ (some 9) _) _
                          simp only [Act.put, List.setIfInBounds_toArray, List.set_cons_zero, List.set_cons_succ]
                          refine wpAnyH_done (by kernel_rfl) ?_ _
                          have HT2 : Hid (Own W' w.heap.size v' (l1 ++ be4s l2 ++ be8s l3 ++ digs (l4.take (k + 1)))) := Lib.hid (by have := HF.out.own; rw [List.append_assoc, HTK.out] at this; exact this)
                          have HU2 := Lib.hid HF.out.row
                          have HA2 := Lib.hid HF.out.ap
                          have HB2 := Lib.hid HF.out.bel
                          go_wp2
                          go_roundw
                          case rel => exact ⟨k + 1, by omega, by go_num, HT2, HU2, HA2, HB2⟩
                          case measure => simp [intOf]; omega
                      · skip
                        refine step_build 78 x rfl rfl rfl hbl ?_
                        have HI6 := Lib.hid (HI.out.alloc (.cells (byt x).toArray 42))
                        have HK6 := Lib.hid HI.out.blk
                        obtain ⟨g6, hg6⟩ : ∃ g, W.heap.size = g := ⟨_, rfl⟩
                        rw [hg6] at HK6
                        rw [hg6]
                        generalize W.alloc (.cells (byt x).toArray 42) = W6 at *
                        refine hK.out _ _ HI6.out.rg (fun hHeld => ?_)
                        clear hK K
                        show wpAnyH _ _ _ _ _ _ _ (Act.put _ (some 79) _) _
                        simp only [Act.put, List.setIfInBounds_toArray, List.set_cons_zero, List.set_cons_succ]
                        refine wpAnyH_ready (rs := [2]) (by kernel_rfl) (by simp) ?_
                        refine AllReadyH.cons rfl (fun K hK => ?_) AllReadyH.nil
                        refine step_build 74 x rfl rfl rfl hbl ?_
                        have HI7 := Lib.hid (HI6.out.alloc (.cells (byt x).toArray 42))
                        have HK67 := Lib.hid (HK6.out.alloc (.cells (byt x).toArray 42))
                        have HK7 := Lib.hid HI6.out.blk
                        obtain ⟨g7, hg7⟩ : ∃ g, W6.heap.size = g := ⟨_, rfl⟩
                        rw [hg7] at HK7
                        rw [hg7]
                        generalize W6.alloc (.cells (byt x).toArray 42) = W7 at *
                        refine hK.out _ _ HI7.out.rg (fun hHeld => ?_)
                        clear hK K
                        show wpAnyH _ _ _ _ _ _ _ (Act.put _ (some 75) _) _
                        simp only [Act.put, List.setIfInBounds_toArray, List.set_cons_zero, List.set_cons_succ]
                        refine wpAnyH_ready (rs := [3]) (by kernel_rfl) (by simp) ?_
                        refine AllReadyH.cons rfl (fun K hK => ?_) AllReadyH.nil
                        refine step_call2 73 75 27 53 u10 (.slice (some ⟨g7, 0, none⟩) 1 1) rfl rfl rfl rfl (outsum_one u10 g7 w.heap.size (l1 ++ be4s l2 ++ be8s l3 ++ digs (l4.take k)) x W7 HI7.out.own HK7.out.holds HX32.out HLN.out HI7.out.le) ?_
                        rintro e W8 ⟨v', rfl, hO', hgr, hL⟩
                        have HI8 := Lib.hid (HI7.out.sum hO' hgr hL)
                        have HK678 := Lib.hid (HK67.out.sum hgr hL)
                        have HK78 := Lib.hid (HK7.out.sum hgr hL)
                        clear hO' hgr hL
                        refine ⟨v', rfl, hK.out _ _ HI8.out.rg (fun hHeld => ?_)⟩
                        clear hK K
                        show wpAnyH _ _ _ _ _ _ _ (Act.put _ (some 76) _) _
                        simp only [Act.put, List.setIfInBounds_toArray, List.set_cons_zero, List.set_cons_succ]
                        refine wpAnyH_ready (rs := [7]) (by kernel_rfl) (by simp) ?_
                        refine AllReadyH.cons rfl (fun K hK => ?_) AllReadyH.nil
                        refine step_append_lies _ rfl (.tmp 77) (.tmp 79) 53 rfl w.heap.size 42 i0 (.agg zeros) 32 32 Try.underlying53 hi hz0 hz1 hz2 zeros_cells (by decide) u9 k _ rfl HI8.out.row ⟨g6, 0, none⟩ 1 1 (byt x) rfl (by rw [hbl]) (World.news_of_block HK678.out.holds) (by intro v hv; obtain ⟨n, _, rfl⟩ := List.mem_map.1 hv; rfl) (by decide) (by unfold maxLen; omega) (by omega) HI8.out.le _ rfl ?_
                        intro gn cap W' hO' hgr hL hlt'
                        rw [byt_append, HTK.out] at hO'
                        have HF := Lib.hid (HI8.out.app hO' hgr hL)
                        clear hO' hgr hL hlt'
                        refine hK.out _ _ HF.out.rg (fun hHeld => ?_)
                        clear hK K
                        show wpAnyH _ _ _ _ _ _ _ (Act.put _ (some 80) _) _
                        simp only [Act.put, List.setIfInBounds_toArray, List.set_cons_zero, List.set_cons_succ]
                        refine wpAnyH_take (i := 8) (v := _) rfl (by kernel_rfl) (by kernel_rfl) (by kernel_rfl) (fun _ _ _ h => h) (Or.inl ⟨by rfl, fun w _ => by rfl⟩) hHeld ?_
                        show wpAnyH _ _ _ _ _ _ _ (Act.put _ (some 10) _) _
                        simp only [Act.put, List.setIfInBounds_toArray, List.set_cons_zero, List.set_cons_succ]
                        refine wpAnyH_take (i := 9) (v := _) rfl (by kernel_rfl) (by kernel_rfl) (by kernel_rfl) (fun _ _ _ h => h) (Or.inl ⟨by rfl, fun w _ => by rfl⟩) hHeld ?_
                        show wpAnyH _ _ _ _ _ _ _ (Act.put _ (some 9) _) _
                        simp only [Act.put, List.setIfInBounds_toArray, List.set_cons_zero, List.set_cons_succ]
                        refine wpAnyH_done (by kernel_rfl) ?_ _
                        have HT2 : Hid (Own W' w.heap.size v' (l1 ++ be4s l2 ++ be8s l3 ++ digs (l4.take (k + 1)))) := Lib.hid (by have := HF.out.own; rw [List.append_assoc, HTK.out] at this; exact this)
                        have HU2 := Lib.hid HF.out.row
                        have HA2 := Lib.hid HF.out.ap
                        have HB2 := Lib.hid HF.out.bel
                        go_wp2
                        go_roundw
                        case rel => exact ⟨k + 1, by omega, by go_num, HT2, HU2, HA2, HB2⟩
                        case measure => simp [intOf]; omega
                  · have htk : l4.take k = l4 := List.take_of_length_le (by rw [HS.out.e4]; omega)
                    rw [htk] at HT HU
                    have hk4 : k = n4 := by omega
                    subst hk4
                    clear htk
                    obtain ⟨A9, c9, hv9, hD⟩ := digs_of_row l4 HU.out HS.out.s4.2 HS.out.e4
                    subst hv9
                    have HD := Lib.hid hD
                    have HLE : Hid (l1.length ≤ 4000 ∧ (l1 ++ be4s l2).length ≤ 20000 ∧ (l1 ++ be4s l2 ++ be8s l3).length ≤ 60000) := Lib.hid (by have := HS.out.e1; have := HS.out.e2; have := HS.out.e3; simp [be4s_length, be8s_length]; omega)
                    have HLL : Hid ((l1 ++ be4s l2 ++ be8s l3 ++ digs l4).length = n1 + 4 * n2 + 8 * n3 + 32 * k) := Lib.hid (by have := HS.out.e1; have := HS.out.e2; have := HS.out.e3; have := HS.out.e4; rw [List.length_append, digs_length l4 HS.out.s4.2]; simp [be4s_length, be8s_length]; omega)
                    clear hD HU HA
                    go_wp2_with fail
                    have HO0 : Hid (Own (wr.alloc (.cells #[] 5)) wr.heap.size (.slice (some ⟨wr.heap.size, 0, none⟩) 0 0) []) := Lib.hid (World.ownsRow_lit wr #[] 0 (Nat.le_refl _) (by unfold maxLen; omega) rfl)
                    have HB0 : Hid (Below wr.heap.size wr (wr.alloc (.cells #[] 5))) := Lib.hid ((Below.refl _ _).alloc (Nat.le_refl _) _)
                    have h5 := one_any _ A1 c1 wr.heap.size [] l1 _ HO0.out (HS.out.s1.below (HB.out.trans (HB0.out.mono HB.out.size))) (by have := HLE.out.1; simp; omega) HB0.out.size
                    rw [HS.out.e1, List.nil_append] at h5
                    ((with_reducible refine h5.mono ?_))
                    clear h5
                    rintro e w1 ⟨v1, rfl, hO1, hg1, hL1⟩
                    have HB1 := Lib.hid (Laid.keep HB0.out HO0.out HB0.out.size hg1)
                    have HO1 := Lib.hid hO1
                    clear hO1 hg1 hL1 HO0 HB0
                    go_wp2_with fail
                    have h5 := four_any v1 A2 c2 wr.heap.size l1 l2 w1 HO1.out (HS.out.s2.below (HB.out.trans (HB1.out.mono HB.out.size))) HS.out.b2 (by have := HLE.out.1; have := HS.out.e2; omega) HB1.out.size
                    rw [HS.out.e2] at h5
                    ((with_reducible refine h5.mono ?_))
                    clear h5
                    rintro e w2 ⟨v2, rfl, hO2, hg2, hL2⟩
                    have HB2 := Lib.hid (Laid.keep HB1.out HO1.out HB1.out.size hg2)
                    have HO2 := Lib.hid hO2
                    clear hO2 hg2 hL2 HO1 HB1
                    go_wp2_with fail
                    have h5 := eight_any v2 A3 c3 wr.heap.size (l1 ++ be4s l2) l3 w2 HO2.out (HS.out.s3.below (HB.out.trans (HB2.out.mono HB.out.size))) HS.out.b3 (by have := HLE.out.2.1; have := HS.out.e3; omega) HB2.out.size
                    rw [HS.out.e3] at h5
                    ((with_reducible refine h5.mono ?_))
                    clear h5
                    rintro e w3 ⟨v3, rfl, hO3, hg3, hL3⟩
                    have HB3 := Lib.hid (Laid.keep HB2.out HO2.out HB2.out.size hg3)
                    have HO3 := Lib.hid hO3
                    clear hO3 hg3 hL3 HO2 HB2
                    go_wp2_with fail
                    have h5 := outsum_any v3 A9 c9 wr.heap.size (l1 ++ be4s l2 ++ be8s l3) l4 w3 HO3.out (HD.out.below HB3.out) (by have := HLE.out.2.2; have := HS.out.e4; omega) HB3.out.size
                    rw [HS.out.e4] at h5
                    ((with_reducible refine h5.mono ?_))
                    clear h5
                    rintro e w4 ⟨v4, rfl, hO4, hg4, hL4⟩
                    have HB4 := Lib.hid (Laid.keep HB3.out HO3.out HB3.out.size hg4)
                    have HO4 := Lib.hid hO4
                    clear hO4 hg4 hL4 HO3 HB3
                    go_wp2_with fail
                    refine (awake1_any _).mono ?_
                    rintro e w5 ⟨rfl, hb5⟩
                    have HB5 := Lib.hid (HB4.out.trans (hb5.mono HB4.out.size))
                    obtain ⟨Aa, ca, hva, hSa⟩ := (HT.out.below HB5.out).src
                    obtain ⟨Ab, cb, hvb, hSb⟩ := (HO4.out.below hb5).src
                    rw [HLL.out] at hva hvb
                    subst hva hvb
                    have hcv1 := to_string w5 Aa ca _ _ HLL.out.symm hSa
                    have hcv2 := to_string w5 Ab cb _ _ HLL.out.symm hSb
                    have HB6 := Lib.hid (HB.out.trans (HB5.out.mono HB.out.size))
                    obtain ⟨N, hN⟩ : ∃ N, n1 + 4 * n2 + 8 * n3 + 32 * k = N := ⟨_, rfl⟩
                    rw [hN] at hcv1 hcv2
                    rw [hN]
                    have hNI : (N : Int) = (n1 : Int) + 4 * n2 + 8 * n3 + 32 * k := by omega
                    have hN1 : (N : Int) ≤ 200000 := by omega
                    have hN2 : (0 : Int) ≤ n1 ∧ (0 : Int) ≤ n2 ∧ (0 : Int) ≤ n3 ∧ (0 : Int) ≤ k := by omega
                    clear hSa hSb hb5 HT HO4 HB4 HB5 HD HLL HLE HS
                    go_wp2
                    go_ret
                    exact ⟨rfl, HB6.out⟩
  · have k1 : 4000 < (n1 : Int) + n2 + n3 + n4 := by omega
    go_enter Try.func6, Try.ntmps6
    go_wp2_with fail
    refine (awake1_any _).mono ?_
    rintro e w1 ⟨rfl, h1⟩
    go_wp2
    go_ret
    exact ⟨rfl, h1⟩
end Go.Proofs.Ytneacogenjlhgaa.octetOnes
