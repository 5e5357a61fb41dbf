/-
  tollhouselaw03.MillGoes (function 8) returns true for all parts that came in; nothing that was there is written.
-/
import Derived.Test.YtcpjfdaacnkcnaaDoorCame
namespace Go.Proofs.YtcpjfdaacnkcnaaDoor
open Go.RowKit
set_option linter.unusedVariables false

set_option maxRecDepth 100000 in
set_option maxHeartbeats 4000000 in
theorem millGoes_walk (A : Option Addr) (m c : Nat) (ps : List (List Nat)) (W : World) (HT : Hid (Tab W)) (HC : Hid (Came W A m ps)) :
    Calls Tryd.prog 8 #[.slice A m c] W fun e w' => e = .returned (.bool true) ∧ Below W.heap.size W w' := by
  have hm := HC.out.most
  by_cases h30 : m ≤ 30
  · have h30' : (m : Int) ≤ 30 := by omega
    go_enter Tryd.func8, Tryd.ntmps8
    go_wp2_with fail
    go_loop [14, 3, 5] (fun i t _ => ∃ (k v : Nat), k ≤ m ∧ i = .int .i64 k ∧ t = .int .i64 v ∧ v ≤ 4222124650659840 ∧ Hid ((ps.take k).flatten.length = v)) (fun i _ _ => m - (intOf i).toNat)
    case atStart => exact ⟨0, 0, Nat.zero_le _, rfl, rfl, by omega, Lib.hid rfl⟩
    case round =>
      obtain ⟨k, v, hk, rfl, rfl, hvb, HV⟩ := hrel
      by_cases hlt : k < m
      · obtain ⟨g, off, Ai, ci, rfl, hg, hgW, hcell, hci, _, hfl, hlen, _⟩ := HC.out.at_ (Below.refl _ _) k hlt
        obtain ⟨n, hn⟩ : ∃ n, (ps.getD k []).length = n := ⟨_, rfl⟩
        have HV2 : Hid ((ps.take (k + 1)).flatten.length = v + n) := Lib.hid (by rw [hfl, List.length_append, HV.out, hn])
        have hv2 : v + n ≤ 4222124650659840 := by have h1 := HC.out.total (k + 1) (by omega); rw [HV2.out] at h1; omega
        rw [hn] at hcell hlen
        clear hn hfl
        go_wp2
        go_round
        case rel => exact ⟨k + 1, v + n, by omega, by go_num, by go_num, hv2, HV2⟩
        case measure => simp [intOf]; omega
      · obtain rfl : k = m := by omega
        have htk : ps.take k = ps := List.take_of_length_le (by rw [HC.out.len]; exact Nat.le_refl _)
        rw [htk] at HV
        by_cases hv : 5000 < v
        · have hvI : (5000 : Int) < (v : Int) := by omega
          go_wp2_with fail
          refine (awake_any _ HT).mono ?_
          rintro e w1 ⟨rfl, h1⟩
          go_wp2
          go_ret
          exact ⟨rfl, h1⟩
        · have hvI : (v : Int) ≤ 5000 := by omega
          have HTOT : Hid (∀ j, (ps.take j).flatten.length ≤ 5000) := Lib.hid (by
            intro j
            have h1 : ps.flatten = (ps.take j).flatten ++ (ps.drop j).flatten := by rw [← List.flatten_append, List.take_append_drop]
            have h2 := HV.out
            rw [h1, List.length_append] at h2
            omega)
          have HBY : Hid (∀ j, ∀ x ∈ (ps.take j).flatten, x < 256) := Lib.hid (by
            intro j x hx
            obtain ⟨p, hp, hxp⟩ := List.mem_flatten.1 hx
            exact (HC.out.each p (List.mem_of_mem_take hp)).2 x hxp)
          clear hvb htk
          go_wp2_with fail
          refine (new_any _).mono ?_
          rintro e w1 ⟨rfl, hr1, hB1⟩
          have HR1 := Lib.hid hr1
          have HB1 := Lib.hid hB1
          clear hr1 hB1
          go_wp2_with fail
          go_loopw [36, 7, 9] (fun i t _ wr => ∃ (j : Nat) (bs : List Nat), j ≤ k ∧ i = .int .i64 j ∧ Hid (Own wr W.heap.size t (ps.take j).flatten) ∧ Hid (t.ownBlock ≠ some W.heap.size) ∧ Hid (Rep wr W.heap.size (ps.take j).flatten bs) ∧ Hid (Below W.heap.size W wr)) (fun i _ _ _ => k - (intOf i).toNat)
          case atStart => exact ⟨0, _, Nat.zero_le _, rfl, Lib.hid (Own.nil _ _), Lib.hid (by simp [Value.ownBlock]), HR1, HB1⟩
          case round =>
            obtain ⟨j, bs, hj, rfl, HO, HOB, HR, HB⟩ := hrel
            by_cases hlt2 : j < k
            · obtain ⟨g, off, Ai, ci, rfl, hg, hgW, hcell, hci, _, hfl, hlen, hsrc⟩ := HC.out.at_ HB.out j hlt2
              obtain ⟨x, hx⟩ : ∃ x, ps.getD j [] = x := ⟨_, rfl⟩
              obtain ⟨n, hn⟩ : ∃ n, x.length = n := ⟨_, rfl⟩
              rw [hx, hn] at hcell
              rw [hx] at hfl hlen hsrc
              have HX := Lib.hid hn
              have HFL := Lib.hid hfl
              have HSR := Lib.hid hsrc
              have hb0 : W.heap.size ≠ 0 := by have := HT.out.lt; omega
              have hwr : W.heap.size < wr.heap.size := HR.out.blk.lt
              clear hx hn hfl hsrc hlen
              go_wp2_with fail
              have HBN := Lib.hid ((Below.refl wr.heap.size wr).alloc (Nat.le_refl _) (.cells #[.slice Ai n ci] 22))
              have HPN := Lib.hid (Blk.new wr 22 [.slice Ai n ci])
              generalize wr.alloc (.cells #[.slice Ai n ci] 22) = w2 at HBN HPN ⊢
              have HP2 := Lib.hid (Parts.one (b := W.heap.size) HPN.out HX.out.symm (by omega) hci ((HSR.out W.heap.size (Nat.le_refl _)).below HBN.out))
              have HB2 := Lib.hid (HB.out.trans (HBN.out.mono (by omega)))
              have HT2 := Lib.hid (HT.out.below HB2.out HT.out.lt)
              have HN2 : Hid ((ps.take j).flatten.length + [x].flatten.length ≤ 1000000000000) := Lib.hid (by have h1 := HTOT.out (j + 1); rw [HFL.out, List.length_append] at h1; simp only [List.flatten_cons, List.flatten_nil, List.append_nil]; omega)
              refine (write_any W.heap.size 1 1 _ _ bs [x] w2 (Lib.hid (HR.out.below HBN.out)) HT2 hb0 HP2 (Lib.hid rfl) (by omega) HN2).mono ?_
              rintro e w3 ⟨rfl, ⟨bs3, hr3⟩, hg3⟩
              rw [show ([x] : List (List Nat)).flatten = x by simp, ← HFL.out] at hr3
              have HR3 := Lib.hid hr3
              have HB3 := Lib.hid (HB2.out.trans (only_up hg3 (Nat.le_refl _) HB2.out.size))
              have HO3 := Lib.hid ((HO.out.below HBN.out).grown hg3 HOB.out)
              have HS3 := Lib.hid (((HSR.out W.heap.size (Nat.le_refl _)).below HBN.out).grown hg3)
              have HT3 := Lib.hid (HT2.out.grown hg3 hb0)
              have HLE : Hid ((ps.take j).flatten.length + x.length ≤ 140737488355328) := Lib.hid (by have h1 := HTOT.out (j + 1); rw [HFL.out, List.length_append] at h1; omega)
              clear hr3 hg3 hcell HN2 HP2 HPN
              go_wp2_with (at_builtin; refine wpList_app rfl (.tmp 44) (.tmp 45) rfl W.heap.size W.heap.size _ _ x rfl HO3.out Ai n ci rfl HX.out.symm HS3.out HLE.out HB3.out.size ?_)
              intro v4 w4 HO4 HG4 HL4
              rw [← HFL.out] at HO4
              have HOB4 : Hid (v4.ownBlock ≠ some W.heap.size) := Lib.hid (by
                rcases HL4.out with h | h
                · rw [h]; exact HOB.out
                · rw [h]; intro he; injection he with he; have := HR3.out.blk.lt; omega)
              have HR4 := Lib.hid (HR3.out.far HG4.out HOB.out)
              have HB4 : Hid (Below W.heap.size W w4) := Lib.hid (HB3.out.grown HG4.out HB3.out.size fun g' hg' => (HO3.out.base_ hg').1)
              have HT4 := Lib.hid (HT.out.below HB4.out HT.out.lt)
              obtain ⟨A4, c4, hv4, hc4, hs4⟩ := HO4.out.src HOB4.out (HBY.out (j + 1))
              subst hv4
              have HS4 := Lib.hid hs4
              have HN4 : Hid ((ps.take (j + 1)).flatten.length ≤ 100000000000) := Lib.hid (by have := HTOT.out (j + 1); omega)
              obtain ⟨q, hq⟩ : ∃ q, (ps.take (j + 1)).flatten = q := ⟨_, rfl⟩
              rw [hq] at HO4 HR4 HS4 HN4 HOB4 ⊢
              have HQ := Lib.hid hq
              clear hs4 hq HO3 HR3 HG4 HL4
              go_wp2_with fail
              refine (sum_any W.heap.size q bs3 w4 HR4 HT4 hb0 HN4).mono ?_
              rintro e w5 ⟨rfl, hB5⟩
              have HB5 := Lib.hid hB5
              clear hB5
              go_wp2_with fail
              have HBN5 := Lib.hid ((Below.refl w5.heap.size w5).alloc (Nat.le_refl _) (.cells #[.slice A4 q.length c4] 22))
              have HPN5 := Lib.hid (Blk.new w5 22 [.slice A4 q.length c4])
              generalize w5.alloc (.cells #[.slice A4 q.length c4] 22) = w6 at HBN5 HPN5 ⊢
              have h4b : W.heap.size < w4.heap.size := HR4.out.blk.lt
              have h45 : w4.heap.size ≤ w5.heap.size := HB5.out.size
              have HB46 := Lib.hid (HB5.out.trans (HBN5.out.mono h45))
              have HB6 := Lib.hid (HB4.out.trans (HB46.out.mono (by omega)))
              have HP6 := Lib.hid (Parts.one (b := W.heap.size) (x := q) HPN5.out rfl (by omega) hc4 (HS4.out.below HB46.out))
              have HN6 : Hid (([q] : List (List Nat)).flatten.length ≤ 100000000000) := Lib.hid (by have := HN4.out; simpa using this)
              refine (of_any 1 1 W.heap.size _ [q] w6 (Lib.hid (HT.out.below HB6.out HT.out.lt)) HP6 (Lib.hid rfl) (by omega) HN6).mono ?_
              rintro e w7 ⟨rfl, hB7⟩
              have HB47 := Lib.hid (HB46.out.trans (hB7.mono HB46.out.size))
              have HB7 := Lib.hid (HB4.out.trans (HB47.out.mono (by omega)))
              have hne := neq_same (sha q) (sha_length q)
              rw [show ([q] : List (List Nat)).flatten = q by simp]
              clear hB7 HPN5 HP6
              go_wp2_with fail
              refine (sum_any W.heap.size q bs3 w7 (Lib.hid (HR4.out.below HB47.out)) (Lib.hid (HT.out.below HB7.out HT.out.lt)) hb0 HN4).mono ?_
              rintro e w8 ⟨rfl, hB8⟩
              have HB48 := Lib.hid (HB47.out.trans (hB8.mono HB47.out.size))
              have HB8 := Lib.hid (HB4.out.trans (HB48.out.mono (by omega)))
              clear hB8
              go_wp2_with fail
              refine (sum_any W.heap.size q bs3 w8 (Lib.hid (HR4.out.below HB48.out)) (Lib.hid (HT.out.below HB8.out HT.out.lt)) hb0 HN4).mono ?_
              rintro e w9 ⟨rfl, hB9⟩
              have HB49 := Lib.hid (HB48.out.trans (hB9.mono HB48.out.size))
              have HB9 := Lib.hid (HB4.out.trans (HB49.out.mono (by omega)))
              clear hB9
              go_wp2
              go_roundw
              case rel => exact ⟨j + 1, bs3, by omega, by go_num, Lib.hid (by rw [HQ.out]; exact HO4.out.below HB49.out), HOB4, Lib.hid (by rw [HQ.out]; exact HR4.out.below HB49.out), HB9⟩
              case measure => simp [intOf]; omega
            · have hz25 := zero25
              have heq := eql_same noSum rfl
              go_wp2_with fail
              refine (write_nil _ _).mono ?_
              rintro e w' ⟨rfl, rfl⟩
              go_wp2_with fail
              refine (note_nil _ _ _ _ rfl).mono ?_
              rintro e w2 ⟨rfl, hB2⟩
              have HB2 := Lib.hid (HB.out.trans (hB2.mono HB.out.size))
              clear hB2
              go_wp2_with fail
              refine (awake_any _ (Lib.hid (HT.out.below HB2.out HT.out.lt))).mono ?_
              rintro e w3 ⟨rfl, hB3⟩
              have HB3 := Lib.hid (HB2.out.trans (hB3.mono HB2.out.size))
              clear hB3
              go_wp2_with fail
              refine (sum_nil _).mono ?_
              rintro e w4 ⟨rfl, hB4⟩
              have HB4 := Lib.hid (HB3.out.trans (hB4.mono HB3.out.size))
              clear hB4
              go_wp2_with fail
              refine (met_nil _).mono ?_
              rintro e w' ⟨rfl, rfl⟩
              go_wp2_with fail
              refine (many_nil _).mono ?_
              rintro e w' ⟨rfl, rfl⟩
              go_wp2
              go_ret
              exact ⟨rfl, HB4.out⟩
  · have h30' : (30 : Int) < (m : Int) := by omega
    go_enter Tryd.func8, Tryd.ntmps8
    go_wp2_with fail
    go_loop [14, 3, 5] (fun i t _ => ∃ (k : Nat) (v : Int), k ≤ m ∧ i = .int .i64 k ∧ t = .int .i64 v) (fun i _ _ => m - (intOf i).toNat)
    case atStart => exact ⟨0, 0, Nat.zero_le _, rfl, rfl⟩
    case round =>
      obtain ⟨k, v, hk, rfl, rfl⟩ := hrel
      by_cases hlt : k < m
      · obtain ⟨g, off, Ai, ci, rfl, hg, hgW, hcell, hci, _, _, hlen, _⟩ := HC.out.at_ (Below.refl _ _) k hlt
        obtain ⟨n, hn⟩ : ∃ n, (ps.getD k []).length = n := ⟨_, rfl⟩
        rw [hn] at hcell hlen
        clear hn
        go_wp2
        go_round
        case rel => exact ⟨k + 1, _, by omega, by go_num, rfl⟩
        case measure => simp [intOf]; omega
      · by_cases hv : 5000 < v
        · go_wp2_with fail
          refine (awake_any _ HT).mono ?_
          rintro e w1 ⟨rfl, h1⟩
          go_wp2
          go_ret
          exact ⟨rfl, h1⟩
        · go_wp2_with fail
          refine (awake_any _ HT).mono ?_
          rintro e w1 ⟨rfl, h1⟩
          go_wp2
          go_ret
          exact ⟨rfl, h1⟩
end Go.Proofs.YtcpjfdaacnkcnaaDoor
