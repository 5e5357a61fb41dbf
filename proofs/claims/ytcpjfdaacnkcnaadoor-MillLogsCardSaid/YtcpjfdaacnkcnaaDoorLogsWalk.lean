/-
  law03.MillLogs 7: its walk.
-/
import Derived.Test.YtcpjfdaacnkcnaaDoorLogHelp
namespace Go.Proofs.YtcpjfdaacnkcnaaDoor
open Go.RowKit
set_option linter.unusedVariables false

set_option maxRecDepth 100000 in
set_option maxHeartbeats 8000000 in
theorem millLogs_walk (A0 : Option Addr) (n0 c0 : Nat) (ds : List (List Nat)) (A1 : Option Addr) (n1 c1 : Nat) (ps : List (List Nat)) (W : World) (HT : Hid (Tab W)) (HD : Hid (CameD W A0 n0 ds)) (hn0 : n0 ≤ 9223372036854775807) (HP : Hid (Came W A1 n1 ps)) :
    Calls Tryd.prog 7 #[.slice A0 n0 c0, .slice A1 n1 c1] W fun e W1 => e = .returned (.bool true) ∧ Below W.heap.size W W1 := by
  have a0 : (0 : Int) ≤ (n0 : Int) := Int.natCast_nonneg _
  have a1 : (n0 : Int) ≤ 9223372036854775807 := by omega
  have b0 : (0 : Int) ≤ (n1 : Int) := Int.natCast_nonneg _
  have b1 : (n1 : Int) ≤ 5864062014805 := by have := HP.out.most; omega
  have L0 : Hid (LogSt (W.alloc (.cells #[.map none, .bool false] 49)) W.heap.size W.heap.size none false [] []) := Lib.hid ⟨Blk.new W 49 [.map none, .bool false], Nat.le_refl _, rfl, by simp, by simp, by simp, fun _ => ⟨rfl, rfl⟩, fun i hi => by cases hi⟩
  have B0 : Hid (Below W.heap.size W (W.alloc (.cells #[.map none, .bool false] 49))) := Lib.hid ((Below.refl _ _).alloc (Nat.le_refl _) _)
  have b25 : ∀ w, (Instr.build 25 #[]).run Tryd.prog w = .ok (.agg #[.int .u8 0, .int .u8 0, .int .u8 0, .int .u8 0, .int .u8 0, .int .u8 0, .int .u8 0, .int .u8 0, .int .u8 0, .int .u8 0, .int .u8 0, .int .u8 0, .int .u8 0, .int .u8 0, .int .u8 0, .int .u8 0, .int .u8 0, .int .u8 0, .int .u8 0, .int .u8 0, .int .u8 0, .int .u8 0, .int .u8 0, .int .u8 0, .int .u8 0, .int .u8 0, .int .u8 0, .int .u8 0, .int .u8 0, .int .u8 0, .int .u8 0, .int .u8 0]) w := fun w => run_build w 25 _ _ (by kernel_rfl)
  clear hn0
  go_enter Tryd.func7, Tryd.ntmps7
  go_upto_region 2 with fail
  generalize W.alloc (.cells #[.map none, .bool false] 49) = w0 at L0 B0 ⊢
  have K0 : Hid (w0.ownsRow W.heap.size 52 4 (.slice none 0 0) 0 (kcells [])) := Lib.hid (World.ownsRow_nil _ _ _ _)
  have S0 : Hid (w0.ownsRow W.heap.size 9 1 (.slice none 0 0) 0 (tcells [])) := Lib.hid (World.ownsRow_nil _ _ _ _)
  go_wp2_with fail
  go_loopw [6, 7, 8, 18] (fun s6 s7 s8 s18 wr => ∃ (k : Nat) (b : Option Nat) (met : Bool) (Ks Xs : List (List Nat)), s18 = .int .i64 (k : Int) ∧ s8 = .bool met ∧ k ≤ n0 ∧ k ≤ 60 ∧ Ks.length ≤ k ∧ Hid (LogSt wr W.heap.size W.heap.size b met Ks Xs) ∧ Hid (wr.ownsRow W.heap.size 52 4 s6 Ks.length (kcells Ks)) ∧ Hid (wr.ownsRow W.heap.size 9 1 s7 Ks.length (tcells Xs)) ∧ Hid (Below W.heap.size W wr)) (fun _ _ _ t _ => n0 - (intOf t).toNat)
  case atStart => exact ⟨0, none, false, [], [], rfl, rfl, Nat.zero_le _, Nat.zero_le _, Nat.le_refl _, L0, K0, S0, B0⟩
  case round =>
    obtain ⟨k, b, met, Ks, Xs, rfl, rfl, hk, hk60, hKk, HL, HK, HS, HB⟩ := hrel
    have k0 : (0 : Int) ≤ (k : Int) := Int.natCast_nonneg _
    have k6 : (k : Int) ≤ 60 := by omega
    by_cases hlt : k < n0
    · have kn : (k : Int) < (n0 : Int) := by omega
      obtain ⟨bD, oD, rfl, hbD, hrD⟩ : ∃ bD oD, A0 = some ⟨bD, oD, none⟩ ∧ bD < W.heap.size ∧ W.rangeAt bD (oD + k * 32) (w8 (ds.getD k [])) := by
        rcases HD.out.at_ with h | ⟨bD, oD, h1, h2, h3⟩
        · have := HD.out.len; rw [h] at this; simp at this; omega
        · exact ⟨bD, oD, h1, h2, h3 k (by rw [HD.out.len]; exact hlt)⟩
      obtain ⟨hd32, hdb⟩ := HD.out.each (ds.getD k []) (by have := HD.out.len; simp [List.getD, show k < ds.length by omega])
      obtain ⟨d, hd⟩ : ∃ d, ds.getD k [] = d := ⟨_, rfl⟩
      rw [hd] at hrD hd32 hdb
      have hrW : wr.rangeAt bD (oD + k * 32) (w8 d) := fun j v hv => (HB.out.cell (p := ⟨bD, oD + k * 32 + j, none⟩) hbD).trans (hrD j v hv)
      have H32 := Lib.hid hd32
      have HDB := Lib.hid hdb
      have hi24 : (Tryd.prog.info? 24).map (·.size) = some (w8 d).length := by rw [w8_length, hd32]; exact info24s
      clear hd hrD hd32 hdb
      have hla := heap_alloc_last wr (.cells #[.int .u8 0, .int .u8 0, .int .u8 0, .int .u8 0, .int .u8 0, .int .u8 0, .int .u8 0, .int .u8 0, .int .u8 0, .int .u8 0, .int .u8 0, .int .u8 0, .int .u8 0, .int .u8 0, .int .u8 0, .int .u8 0, .int .u8 0, .int .u8 0, .int .u8 0, .int .u8 0, .int .u8 0, .int .u8 0, .int .u8 0, .int .u8 0, .int .u8 0, .int .u8 0, .int .u8 0, .int .u8 0, .int .u8 0, .int .u8 0, .int .u8 0, .int .u8 0] 24)
      have hz24 : (Tryd.prog.info? 24).map (·.size) = some (w8 d).toArray.size := by simpa using hi24
      have hzz : (#[.int .u8 0, .int .u8 0, .int .u8 0, .int .u8 0, .int .u8 0, .int .u8 0, .int .u8 0, .int .u8 0, .int .u8 0, .int .u8 0, .int .u8 0, .int .u8 0, .int .u8 0, .int .u8 0, .int .u8 0, .int .u8 0, .int .u8 0, .int .u8 0, .int .u8 0, .int .u8 0, .int .u8 0, .int .u8 0, .int .u8 0, .int .u8 0, .int .u8 0, .int .u8 0, .int .u8 0, .int .u8 0, .int .u8 0, .int .u8 0, .int .u8 0, .int .u8 0] : Array Value).size = (w8 d).toArray.size := by simp [w8_length, H32.out]
      have hone : (w8 d).toArray.all (·.oneCell') = true := all_one_ (w8_one d)
      go_upto_region 8 with (first | (refine wpList_load_mid rfl 24 (.tmp 21) rfl bD (oD + k * 32) rfl (w8 d) _ hrW Tryd.underlying24 rfl hi24 ?_) | (refine wpList_store_row rfl 24 (.tmp 10) (.tmp 22) rfl wr.heap.size (w8 d).toArray rfl rfl 24 #[.int .u8 0, .int .u8 0, .int .u8 0, .int .u8 0, .int .u8 0, .int .u8 0, .int .u8 0, .int .u8 0, .int .u8 0, .int .u8 0, .int .u8 0, .int .u8 0, .int .u8 0, .int .u8 0, .int .u8 0, .int .u8 0, .int .u8 0, .int .u8 0, .int .u8 0, .int .u8 0, .int .u8 0, .int .u8 0, .int .u8 0, .int .u8 0, .int .u8 0, .int .u8 0, .int .u8 0, .int .u8 0, .int .u8 0, .int .u8 0, .int .u8 0, .int .u8 0] hla hz24 hzz hone ?_; rw [World.setRow_alloc_new]))
      have hBd : Below wr.heap.size wr (wr.alloc (.cells (w8 d).toArray 24)) := (Below.refl _ _).alloc (Nat.le_refl _) _
      have B1 : Hid (Below W.heap.size W (wr.alloc (.cells (w8 d).toArray 24))) := Lib.hid (HB.out.trans (hBd.mono HB.out.size))
      have hKp := Kept.of_below HB.out.size hBd
      have L1 : Hid (LogSt (wr.alloc (.cells (w8 d).toArray 24)) W.heap.size W.heap.size b met Ks Xs) := Lib.hid (HL.out.below_ hBd)
      have K1 : Hid ((wr.alloc (.cells (w8 d).toArray 24)).ownsRow W.heap.size 52 4 u6 Ks.length (kcells Ks)) := Lib.hid (hKp.row (by decide) HK.out)
      have S1 : Hid ((wr.alloc (.cells (w8 d).toArray 24)).ownsRow W.heap.size 9 1 u7 Ks.length (tcells Xs)) := Lib.hid (hKp.row (by decide) HS.out)
      have D1 : Hid (Blk (wr.alloc (.cells (w8 d).toArray 24)) wr.heap.size 24 (w8 d)) := Lib.hid (Blk.new wr 24 (w8 d))
      have HGD : Hid (W.heap.size < wr.heap.size) := Lib.hid HL.out.blk.lt
      clear hBd hKp HL HK HS HB hla hz24 hzz hone hrW hi24
      generalize wr.alloc (.cells (w8 d).toArray 24) = w1 at B1 L1 K1 S1 D1 ⊢
      generalize wr.heap.size = gd at D1 HGD ⊢
      by_cases hi1 : n1 ≤ k
      · have e1 : (n1 : Int) ≤ (k : Int) := by omega
        clear L1 K1 S1 D1
        go_wp2_with fail
        refine (note_nil _ _ _ _ rfl).mono ?_
        rintro e Z1 ⟨rfl, hB⟩
        have F1 := Lib.hid (B1.out.trans (hB.mono B1.out.size))
        clear hB
        go_wp2_with fail
        refine (awake_any Z1 (Lib.hid (Tab.keep_ HT.out F1.out))).mono ?_
        rintro e Z2 ⟨rfl, hB⟩
        have F2 := Lib.hid (F1.out.trans (hB.mono F1.out.size))
        clear hB F1
        go_wp2_with fail
        refine (met_nil _).mono ?_
        rintro e Z3 ⟨rfl, rfl⟩
        go_wp2_with fail
        refine (many_nil _).mono ?_
        rintro e Z3 ⟨rfl, rfl⟩
        go_wp2
        go_ret
        exact ⟨rfl, F2.out⟩
      · have e1 : ¬ ((n1 : Int) ≤ (k : Int)) := by omega
        by_cases hi2 : k = 60
        · have e2 : (60 : Int) ≤ (k : Int) := by omega
          have hk2 := hi2
          clear L1 K1 S1 D1 hi2 hk2
          go_wp2_with fail
          refine (note_nil _ _ _ _ rfl).mono ?_
          rintro e Z1 ⟨rfl, hB⟩
          have F1 := Lib.hid (B1.out.trans (hB.mono B1.out.size))
          clear hB
          go_wp2_with fail
          refine (awake_any Z1 (Lib.hid (Tab.keep_ HT.out F1.out))).mono ?_
          rintro e Z2 ⟨rfl, hB⟩
          have F2 := Lib.hid (F1.out.trans (hB.mono F1.out.size))
          clear hB F1
          go_wp2_with fail
          refine (met_nil _).mono ?_
          rintro e Z3 ⟨rfl, rfl⟩
          go_wp2_with fail
          refine (many_nil _).mono ?_
          rintro e Z3 ⟨rfl, rfl⟩
          go_wp2
          go_ret
          exact ⟨rfl, F2.out⟩
        · have e2 : ¬ ((60 : Int) ≤ (k : Int)) := by omega
          have e3 : (k : Int) < (n1 : Int) := by omega
          obtain ⟨gP, oP, Ai, ci, rfl, _, hgW, hcellW, hci, hsrcW, _, hlen, hsrcB⟩ := HP.out.at_ (Below.refl _ _) k (by omega)
          have hp256 := hsrcW.lt
          obtain ⟨p, hp⟩ : ∃ p, ps.getD k [] = p := ⟨_, rfl⟩
          rw [hp] at hcellW hsrcW hlen hp256 hsrcB
          obtain ⟨np, hnp⟩ : ∃ x, p.length = x := ⟨_, rfl⟩
          rw [hnp] at hcellW hlen
          have hcell := (B1.out.cell (p := ⟨gP, oP + k, none⟩) hgW).trans hcellW
          have np0 : (0 : Int) ≤ (np : Int) := Int.natCast_nonneg _
          have np1 : (np : Int) ≤ 140737488355328 := by omega
          by_cases hi3 : 500 < np
          · have e4 : (500 : Int) < (np : Int) := by omega
            clear L1 K1 S1 D1 hsrcW hsrcB
            go_wp2_with fail
            refine (note_nil _ _ _ _ rfl).mono ?_
            rintro e Z1 ⟨rfl, hB⟩
            have F1 := Lib.hid (B1.out.trans (hB.mono B1.out.size))
            clear hB
            go_wp2_with fail
            refine (awake_any Z1 (Lib.hid (Tab.keep_ HT.out F1.out))).mono ?_
            rintro e Z2 ⟨rfl, hB⟩
            have F2 := Lib.hid (F1.out.trans (hB.mono F1.out.size))
            clear hB F1
            go_wp2_with fail
            refine (met_nil _).mono ?_
            rintro e Z3 ⟨rfl, rfl⟩
            go_wp2_with fail
            refine (many_nil _).mono ?_
            rintro e Z3 ⟨rfl, rfl⟩
            go_wp2
            go_ret
            exact ⟨rfl, F2.out⟩
          · have e4 : ¬ ((500 : Int) < (np : Int)) := by omega
            have HCW : Hid (gP < W.heap.size) := Lib.hid hgW
            have HCELL : Hid (∀ w', Below W.heap.size W w' → w'.cell? ⟨gP, oP + k, none⟩ = some (.slice Ai np ci)) := Lib.hid (fun w' hB => (hB.cell (p := ⟨gP, oP + k, none⟩) hgW).trans hcellW)
            have HSRC : Hid (∀ w' B, Below W.heap.size W w' → W.heap.size ≤ B → Src w' B Ai ci p) := Lib.hid (fun w' B hB hBB => (hsrcB B hBB).below hB)
            have H256 := Lib.hid hp256
            have HNP := Lib.hid hnp
            have HNP5 : Hid (np ≤ 500) := Lib.hid (by omega)
            have e5 : (k : Int) < (n1 : Int) := e3
            clear hp hnp hi3 hsrcW hsrcB hp256 hlen hgW hcellW hci
            have hal : Tryd.prog.arrayLen 24 = 32 := by kernel_rfl
            have hsl : ∀ w, (Instr.sliceAt 24 (.pointer (some ⟨gd, 0, none⟩)) none (some (.int .i64 4)) none).run Tryd.prog w = .ok (.slice (some ⟨gd, 0, none⟩) 4 32) w := fun w => by
              rw [run_sliceAt_array_h w 24 ⟨gd, 0, none⟩ (by kernel_rfl) .i64 4 (by omega) (by rw [hal]; omega)]
              go_simp
            have hat := fun w => run_arrayAt (P := Tryd.prog) w 52 5 4 (some ⟨gd, 0, none⟩) 4 32 under52 (Nat.le_refl _)
            have hr4 : w1.rangeAt gd 0 (w8 (d.take 4)) := by
              have := D1.out.range 0 4
              rwa [List.drop_zero, w8_take_] at this
            obtain ⟨hk4, hkb⟩ := take4_ok H32.out HDB.out
            obtain ⟨ky, hKd⟩ : ∃ ky, d.take 4 = ky := ⟨_, rfl⟩
            rw [hKd] at hr4 hk4 hkb
            have HKD := Lib.hid hKd
            have HK4 := Lib.hid hk4
            have HKB := Lib.hid hkb
            have hi52 : (Tryd.prog.info? 52).map (·.size) = some (w8 ky).length := by rw [w8_length, hk4]; exact info52s
            have hla := heap_alloc_last w1 (.cells #[.int .u8 0, .int .u8 0, .int .u8 0, .int .u8 0] 52)
            have hz52 : (Tryd.prog.info? 52).map (·.size) = some (w8 ky).toArray.size := by simpa using hi52
            have hzz : (#[.int .u8 0, .int .u8 0, .int .u8 0, .int .u8 0] : Array Value).size = (w8 ky).toArray.size := by simp [w8_length, hk4]
            have hone : (w8 ky).toArray.all (·.oneCell') = true := all_one_ (w8_one ky)
            clear hKd hk4 hkb hal
            go_upto_region 10 with (first | (refine wpList_load_mid rfl 52 (.tmp 40) rfl gd 0 rfl (w8 ky) _ hr4 under52 rfl hi52 ?_) | (refine wpList_store_row rfl 52 (.tmp 11) (.tmp 41) rfl w1.heap.size (w8 ky).toArray rfl rfl 52 #[.int .u8 0, .int .u8 0, .int .u8 0, .int .u8 0] hla hz52 hzz hone ?_; rw [World.setRow_alloc_new]))
            have hBd : Below w1.heap.size w1 (w1.alloc (.cells (w8 ky).toArray 52)) := (Below.refl _ _).alloc (Nat.le_refl _) _
            have hKp := Kept.of_below B1.out.size hBd
            have B2 : Hid (Below W.heap.size W (w1.alloc (.cells (w8 ky).toArray 52))) := Lib.hid (B1.out.trans (hBd.mono B1.out.size))
            have L2 : Hid (LogSt (w1.alloc (.cells (w8 ky).toArray 52)) W.heap.size W.heap.size b met Ks Xs) := Lib.hid (L1.out.below_ hBd)
            have K2 : Hid ((w1.alloc (.cells (w8 ky).toArray 52)).ownsRow W.heap.size 52 4 u6 Ks.length (kcells Ks)) := Lib.hid (hKp.row (by decide) K1.out)
            have S2 : Hid ((w1.alloc (.cells (w8 ky).toArray 52)).ownsRow W.heap.size 9 1 u7 Ks.length (tcells Xs)) := Lib.hid (hKp.row (by decide) S1.out)
            have D2 : Hid (Blk (w1.alloc (.cells (w8 ky).toArray 52)) gd 24 (w8 d)) := Lib.hid (D1.out.below hBd D1.out.lt)
            have E2 : Hid (Blk (w1.alloc (.cells (w8 ky).toArray 52)) w1.heap.size 52 (w8 ky)) := Lib.hid (Blk.new w1 52 (w8 ky))
            have HGE : Hid (W.heap.size ≤ w1.heap.size) := Lib.hid B1.out.size
            have HKG : Hid (some w1.heap.size ≠ u6.ownBlock) := Lib.hid (fun e => by have := (World.ownsRow.lt K1.out _ e.symm).2; omega)
            clear hcell hBd hKp L1 K1 S1 D1 B1 hla hz52 hzz hone hr4 hi52 hsl hat
            generalize w1.alloc (.cells (w8 ky).toArray 52) = w2 at B2 L2 K2 S2 D2 E2 ⊢
            generalize w1.heap.size = ge at E2 HGE HKG ⊢
            obtain ⟨ksA, ksc, rfl⟩ : ∃ A c, u6 = .slice A Ks.length c := by
              rcases K2.out.2 with ⟨h, h0⟩ | ⟨g, cap, cur, h, _⟩
              · exact ⟨none, 0, by rw [h, h0]⟩
              · exact ⟨_, _, h⟩
            obtain ⟨nk, hnk⟩ : ∃ x, Ks.length = x := ⟨_, rfl⟩
            rw [show (Value.slice ksA Ks.length ksc) = Value.slice ksA nk ksc by rw [hnk]] at K2 HKG ⊢
            have nk0 : (0 : Int) ≤ (nk : Int) := Int.natCast_nonneg _
            have nk1 : (nk : Int) ≤ 60 := by omega
            have HNK := Lib.hid hnk
            clear hnk
            go_wp2_with fail
            go_loopw [12, 44] (fun v t wc => ∃ (j : Nat), t = .int .i64 (j : Int) ∧ v = .int .i64 (lastAt Ks ky j) ∧ j ≤ nk ∧ Hid (Below w2.heap.size w2 wc)) (fun _ t _ => nk - (intOf t).toNat)
            case atStart => exact ⟨0, rfl, rfl, Nat.zero_le _, Lib.hid (Below.refl _ _)⟩
            case round =>
              obtain ⟨j, rfl, rfl, hj, HBc⟩ := hrel
              have j0 : (0 : Int) ≤ (j : Int) := Int.natCast_nonneg _
              have j1 : (j : Int) ≤ 60 := by omega
              by_cases hjl : j < nk
              · have jn : (j : Int) < (nk : Int) := by omega
                have hKc := (Kept.of_below B2.out.size HBc.out).row (by decide) K2.out
                rw [HNK.out] at hKc
                obtain ⟨gk, rfl, _, hgk, hrj⟩ := krow_at hKc HNK.out L2.out.keys j hjl
                obtain ⟨Kj, hKj⟩ : ∃ x, Ks.getD j [] = x := ⟨_, rfl⟩
                have hKj4 : Kj.length = 4 := by
                  rw [← hKj]
                  exact (L2.out.keys _ (by have := HNK.out; simp [List.getD, show j < Ks.length by omega])).1
                rw [hKj] at hrj
                have hLA : lastAt Ks ky (j + 1) = if Kj = ky then (j : Int) else lastAt Ks ky j := by rw [lastAt, hKj]
                have hi52 : (Tryd.prog.info? 52).map (·.size) = some (w8 Kj).length := by rw [w8_length, hKj4]; exact info52s
                have hi52k : (Tryd.prog.info? 52).map (·.size) = some (w8 ky).length := by rw [w8_length, HK4.out]; exact info52s
                have hla := heap_alloc_last wr (.cells #[.int .u8 0, .int .u8 0, .int .u8 0, .int .u8 0] 52)
                have hz52 : (Tryd.prog.info? 52).map (·.size) = some (w8 Kj).toArray.size := by simpa using hi52
                have hzz : (#[.int .u8 0, .int .u8 0, .int .u8 0, .int .u8 0] : Array Value).size = (w8 Kj).toArray.size := by simp [w8_length, hKj4]
                have hone : (w8 Kj).toArray.all (·.oneCell') = true := all_one_ (w8_one Kj)
                have hge : ge < w2.heap.size := E2.out.lt
                have heq := fun w => eql_row under52 Kj ky hKj4 HK4.out w
                have HLA2 := Lib.hid hLA
                have HEQ := Lib.hid heq
                clear hKc hKj hKj4 hLA heq
                go_upto_region 14 with (first | (refine wpList_load_mid rfl 52 (.tmp 47) rfl gk (j * 4) rfl (w8 Kj) _ hrj under52 rfl hi52 ?_) | (refine wpList_store_row rfl 52 (.tmp 14) (.tmp 48) rfl wr.heap.size (w8 Kj).toArray rfl rfl 52 #[.int .u8 0, .int .u8 0, .int .u8 0, .int .u8 0] hla hz52 hzz hone ?_; rw [World.setRow_alloc_new]))
                have hBd : Below wr.heap.size wr (wr.alloc (.cells (w8 Kj).toArray 52)) := (Below.refl _ _).alloc (Nat.le_refl _) _
                have B3 : Hid (Below w2.heap.size w2 (wr.alloc (.cells (w8 Kj).toArray 52))) := Lib.hid (HBc.out.trans (hBd.mono HBc.out.size))
                have hx3 : (wr.alloc (.cells (w8 Kj).toArray 52)).rangeAt wr.heap.size 0 (w8 Kj) := (Blk.new wr 52 (w8 Kj)).all
                have he3 : (wr.alloc (.cells (w8 Kj).toArray 52)).rangeAt ge 0 (w8 ky) := (E2.out.below B3.out hge).all
                clear hBd hla hz52 hzz hone hrj hge HBc
                generalize wr.alloc (.cells (w8 Kj).toArray 52) = w3 at B3 hx3 he3 ⊢
                generalize wr.heap.size = gx at hx3 ⊢
                by_cases hkk : Kj = ky
                · have heq := HEQ.out
                  have hLA := HLA2.out
                  rw [if_pos hkk] at hLA
                  simp only [decide_eq_true hkk] at heq
                  have HLA3 := Lib.hid hLA
                  clear hLA HLA2 hkk HEQ
                  go_wp2_with (first | (refine wpList_load_mid rfl 52 (.tmp 14) rfl gx 0 rfl (w8 Kj) _ hx3 under52 rfl hi52 ?_) | (refine wpList_load_mid rfl 52 (.tmp 11) rfl ge 0 rfl (w8 ky) _ he3 under52 rfl hi52k ?_))
                  exact ⟨⟨j + 1, rfl, by rw [HLA3.out], by omega, B3⟩, by show nk - (j + 1) < nk - j; omega⟩
                · have heq := HEQ.out
                  have hLA := HLA2.out
                  rw [if_neg hkk] at hLA
                  simp only [decide_eq_false hkk] at heq
                  have HLA3 := Lib.hid hLA
                  clear hLA HLA2 hkk HEQ
                  go_wp2_with (first | (refine wpList_load_mid rfl 52 (.tmp 14) rfl gx 0 rfl (w8 Kj) _ hx3 under52 rfl hi52 ?_) | (refine wpList_load_mid rfl 52 (.tmp 11) rfl ge 0 rfl (w8 ky) _ he3 under52 rfl hi52k ?_))
                  exact ⟨⟨j + 1, rfl, by rw [HLA3.out], by omega, B3⟩, by show nk - (j + 1) < nk - j; omega⟩
              · have jn : ¬ ((j : Int) < (nk : Int)) := by omega
                have hjn : j = nk := by omega
                subst hjn
                have HK9 : Hid (Ks.length ≤ k) := Lib.hid hKk
                have hKp := Kept.of_below B2.out.size HBc.out
                have B4 : Hid (Below W.heap.size W wr) := Lib.hid (B2.out.trans (HBc.out.mono B2.out.size))
                have L4 : Hid (LogSt wr W.heap.size W.heap.size b met Ks Xs) := Lib.hid (L2.out.below_ HBc.out)
                have P4 : Hid (wr.ownsRow W.heap.size 52 4 (.slice ksA j ksc) j (kcells Ks)) := Lib.hid (by have := hKp.row (by decide) K2.out; rw [HNK.out] at this; exact this)
                have S4 : Hid (wr.ownsRow W.heap.size 9 1 u7 j (tcells Xs)) := Lib.hid (by have := hKp.row (by decide) S2.out; rw [HNK.out] at this; exact this)
                have D4 : Hid (Blk wr gd 24 (w8 d)) := Lib.hid (D2.out.below HBc.out D2.out.lt)
                have E4 : Hid (Blk wr ge 52 (w8 ky)) := Lib.hid (E2.out.below HBc.out E2.out.lt)
                have C4 : Hid (wr.cell? ⟨gP, oP + k, none⟩ = some (.slice Ai np ci)) := Lib.hid (HCELL.out _ B4.out)
                have R4 : Hid (Src wr W.heap.size Ai ci p) := Lib.hid (HSRC.out _ _ B4.out (Nat.le_refl _))
                clear hKp HBc B2 L2 K2 S2 D2 E2
                generalize wr = w4 at B4 L4 P4 S4 D4 E4 C4 R4 ⊢
                rcases lastAt_cases Ks ky j with ⟨h1, h2⟩ | ⟨jj, h1, hjj, h3⟩
                · rw [h1]
                  have HNEW : Hid (∀ i, i < Ks.length → Ks.getD i [] ≠ d.take 4) := Lib.hid (fun i hi => by rw [HKD.out]; exact h2 i (by rw [HNK.out] at hi; exact hi))
                  have hi52k : (Tryd.prog.info? 52).map (·.size) = some (w8 ky).length := by rw [w8_length, HK4.out]; exact info52s
                  clear h1 h2
                  go_upto_region 18 with fail
                  go_cut [6, 7, 18] from 18 to 104 (fun s6 s7 s18 wx => s18 = .int .i64 (k : Int) ∧ Hid (Below W.heap.size W wx) ∧ Hid (LogSt wx W.heap.size W.heap.size b met Ks Xs) ∧ Hid (wx.ownsRow W.heap.size 52 4 s6 (j + 1) (kcells (Ks ++ [ky]))) ∧ Hid (wx.ownsRow W.heap.size 9 1 s7 (j + 1) (tcells (Xs ++ [p]))) ∧ Hid (Blk wx gd 24 (w8 d)))
                  case first =>
                    have hBz : Below w4.heap.size w4 w4.drew := below_drewN (Below.refl _ _) 1
                    have BX0 : Hid (Below W.heap.size W w4.drew) := Lib.hid (B4.out.trans (hBz.mono B4.out.size))
                    have LX0 : Hid (LogSt w4.drew W.heap.size W.heap.size b met Ks Xs) := Lib.hid (L4.out.below_ hBz)
                    have DX0 : Hid (Blk w4.drew gd 24 (w8 d)) := Lib.hid (D4.out.below hBz D4.out.lt)
                    have CX0 : Hid (w4.drew.cell? ⟨gP, oP + k, none⟩ = some (.slice Ai np ci)) := Lib.hid (HCELL.out _ BX0.out)
                    have EX0 : Hid (Blk w4.drew ge 52 (w8 ky)) := Lib.hid (E4.out.below hBz E4.out.lt)
                    have RX0 : Hid (Src w4.drew W.heap.size Ai ci p) := Lib.hid (HSRC.out _ _ BX0.out (Nat.le_refl _))
                    have PX0 : Hid (w4.drew.ownsRow W.heap.size 52 4 (.slice ksA j ksc) j (kcells Ks)) := Lib.hid (row_below P4.out hBz)
                    have SX0 : Hid (w4.drew.ownsRow W.heap.size 9 1 u7 j (tcells Xs)) := Lib.hid (row_below S4.out hBz)
                    clear hBz
                    refine wp_region_held_drew (S := fun w' => Blk w' ge 52 (w8 ky) ∧ w'.cell? ⟨gP, oP + k, none⟩ = some (.slice Ai np ci) ∧ Src w' W.heap.size Ai ci p) (by kernel_rfl) (⟨EX0.out, CX0.out, RX0.out⟩) (fun hHeld => ?_)
                    generalize w4.drew = X0 at hHeld BX0 LX0 DX0 CX0 EX0 RX0 PX0 SX0 ⊢
                    refine wpAnyH_take (i := 0) (v := .slice ksA j ksc) rfl (by kernel_rfl) (by kernel_rfl) (by kernel_rfl) (fun _ _ _ h => h) (Or.inl ⟨by rfl, fun w _ => by rfl⟩) hHeld ?_
                    show wpAnyH _ _ _ _ _ _ _ (Act.put _ (some 56) _) _
                    simp only [Act.put, List.setIfInBounds_toArray, List.set_cons_zero, List.set_cons_succ]
                    refine wpAnyH_take (i := 1) (v := .agg (w8 ky).toArray) rfl (by kernel_rfl) (by kernel_rfl) (by kernel_rfl) (fun _ _ _ h => h) (yieldsIf_load_mid (by rfl) 52 (.tmp 11) rfl ge 0 rfl (w8 ky) _ (fun w h => Blk.all h.1) under52 rfl hi52k) hHeld ?_
                    show wpAnyH _ _ _ _ _ _ _ (Act.put _ (some 57) _) _
                    simp only [Act.put, List.setIfInBounds_toArray, List.set_cons_zero, List.set_cons_succ]
                    refine wpAnyH_take (i := 4) (v := u7) rfl (by kernel_rfl) (by kernel_rfl) (by kernel_rfl) (fun _ _ _ h => h) (Or.inl ⟨by rfl, fun w _ => by rfl⟩) hHeld ?_
                    show wpAnyH _ _ _ _ _ _ _ (Act.put _ (some 60) _) _
                    simp only [Act.put, List.setIfInBounds_toArray, List.set_cons_zero, List.set_cons_succ]
                    refine wpAnyH_take (i := 5) (v := .slice (some ⟨gP, oP, none⟩) n1 c1) rfl (by kernel_rfl) (by kernel_rfl) (by kernel_rfl) (fun _ _ _ h => h) (Or.inl ⟨by rfl, fun w _ => by rfl⟩) hHeld ?_
                    show wpAnyH _ _ _ _ _ _ _ (Act.put _ (some 61) _) _
                    simp only [Act.put, List.setIfInBounds_toArray, List.set_cons_zero, List.set_cons_succ]
                    refine wpAnyH_take (i := 6) (v := .int .i64 (k : Int)) rfl (by kernel_rfl) (by kernel_rfl) (by kernel_rfl) (fun _ _ _ h => h) (Or.inl ⟨by rfl, fun w _ => by rfl⟩) hHeld ?_
                    show wpAnyH _ _ _ _ _ _ _ (Act.put _ (some 62) _) _
                    simp only [Act.put, List.setIfInBounds_toArray, List.set_cons_zero, List.set_cons_succ]
                    refine wpAnyH_take (i := 7) (v := .pointer (some ⟨gP, oP + k, none⟩)) rfl (by kernel_rfl) (by kernel_rfl) (by kernel_rfl) (fun _ _ _ h => h) (Or.inl ⟨by rfl, by intro w' h; go_simp⟩) hHeld ?_
                    show wpAnyH _ _ _ _ _ _ _ (Act.put _ (some 63) _) _
                    simp only [Act.put, List.setIfInBounds_toArray, List.set_cons_zero, List.set_cons_succ]
                    refine wpAnyH_take (i := 8) (v := .slice Ai np ci) rfl (by kernel_rfl) (by kernel_rfl) (by kernel_rfl) (fun _ _ _ h => h) (Or.inl ⟨by rfl, by intro w' h; have hq := h.2.1; go_simp⟩) hHeld ?_
                    show wpAnyH _ _ _ _ _ _ _ (Act.put _ (some 64) _) _
                    simp only [Act.put, List.setIfInBounds_toArray, List.set_cons_zero, List.set_cons_succ]
                    refine wpAnyH_take (i := 9) (v := .string (txt (ints p))) rfl (by kernel_rfl) (by kernel_rfl) (by kernel_rfl) (fun _ _ _ h => h) (Or.inl ⟨by rfl, by intro w' h; have hq := to_string w' _ Ai ci np p HNP.out.symm h.2.2; go_simp⟩) hHeld ?_
                    show wpAnyH _ _ _ _ _ _ _ (Act.put _ (some 65) _) _
                    simp only [Act.put, List.setIfInBounds_toArray, List.set_cons_zero, List.set_cons_succ]
                    refine wpAnyH_ready (rs := [2, 10]) (by kernel_rfl) (by simp) ?_
                    refine AllReadyH.cons rfl (fun K hK => ?_) (AllReadyH.cons rfl (fun K hK => ?_) AllReadyH.nil)
                    · refine step_lay rfl 50 1 _ rfl #[(0, .agg (w8 ky).toArray)] (by simp [Act.eval]) _ _ (lay50 ky HK4.out X0) ?_
                      have hB : Below X0.heap.size X0 (X0.alloc (.cells (w8 ky).toArray 52)) := (Below.refl _ _).alloc (Nat.le_refl _) _
                      have hG : Blk (X0.alloc (.cells (w8 ky).toArray 52)) X0.heap.size 52 (w8 ky) := Blk.new X0 52 _
                      generalize X0.alloc (.cells (w8 ky).toArray 52) = X1 at hB hG ⊢
                      obtain ⟨gl, hgl⟩ : ∃ q, X0.heap.size = q := ⟨_, rfl⟩
                      rw [hgl] at hG ⊢
                      clear hgl
                      have BX1 : Hid (Below W.heap.size W X1) := Lib.hid (BX0.out.trans (hB.mono BX0.out.size))
                      have LX1 : Hid (LogSt X1 W.heap.size W.heap.size b met Ks Xs) := Lib.hid (LX0.out.below_ hB)
                      have DX1 : Hid (Blk X1 gd 24 (w8 d)) := Lib.hid (DX0.out.below hB DX0.out.lt)
                      have CX1 : Hid (X1.cell? ⟨gP, oP + k, none⟩ = some (.slice Ai np ci)) := Lib.hid (HCELL.out _ BX1.out)
                      have EX1 : Hid (Blk X1 ge 52 (w8 ky)) := Lib.hid (EX0.out.below hB EX0.out.lt)
                      have RX1 : Hid (Src X1 W.heap.size Ai ci p) := Lib.hid (HSRC.out _ _ BX1.out (Nat.le_refl _))
                      have PX1 : Hid (X1.ownsRow W.heap.size 52 4 (.slice ksA j ksc) j (kcells Ks)) := Lib.hid (row_below PX0.out hB)
                      have SX1 : Hid (X1.ownsRow W.heap.size 9 1 u7 j (tcells Xs)) := Lib.hid (row_below SX0.out hB)
                      have GX1 : Hid (Blk X1 gl 52 (w8 ky)) := Lib.hid (hG)
                      clear BX0 LX0 DX0 CX0 EX0 RX0 PX0 SX0 hB hG
                      refine hK.out _ _ (⟨EX1.out, CX1.out, RX1.out⟩) (fun hHeld => ?_)
                      clear hK K
                      show wpAnyH _ _ _ _ _ _ _ (Act.put _ (some 58) _) _
                      simp only [Act.put, List.setIfInBounds_toArray, List.set_cons_zero, List.set_cons_succ]
                      refine wpAnyH_ready (rs := [3, 10]) (by kernel_rfl) (by simp) ?_
                      refine AllReadyH.cons rfl (fun K hK => ?_) (AllReadyH.cons rfl (fun K hK => ?_) AllReadyH.nil)
                      · obtain ⟨v1, W1, hr1, hn1, hO⟩ := app_keys PX1.out HNK.out (by omega) GX1.out HK4.out BX1.out.size
                        have hOW := PX1.out
                        have hEO : some ge ≠ (Value.slice ksA j ksc).ownBlock := HKG.out
                        refine step_append rfl (.tmp 56) (.tmp 58) 50 50 rfl v1 W1 (hr1) ?_
                        generalize W1 = X2 at hn1 hO ⊢
                        have BX2 : Hid (Below W.heap.size W X2) := Lib.hid (below_own BX1.out.size BX1.out hOW hO)
                        have LX2 : Hid (LogSt X2 W.heap.size W.heap.size b met Ks Xs) := Lib.hid (LX1.out.other hOW (by decide) (by decide) hO)
                        have DX2 : Hid (Blk X2 gd 24 (w8 d)) := Lib.hid (blk_other DX1.out hOW (by decide) hO)
                        have CX2 : Hid (X2.cell? ⟨gP, oP + k, none⟩ = some (.slice Ai np ci)) := Lib.hid (HCELL.out _ BX2.out)
                        have EX2 : Hid (Blk X2 ge 52 (w8 ky)) := Lib.hid (EX1.out.grown hO hEO)
                        have RX2 : Hid (Src X2 W.heap.size Ai ci p) := Lib.hid (HSRC.out _ _ BX2.out (Nat.le_refl _))
                        have SX2 : Hid (X2.ownsRow W.heap.size 9 1 u7 j (tcells Xs)) := Lib.hid (row_other SX1.out hOW (by decide) hO)
                        have TX2 : Hid (X2.ownsRow W.heap.size 52 4 v1 (j + 1) (kcells (Ks ++ [ky]))) := Lib.hid (hn1)
                        clear BX1 LX1 DX1 CX1 EX1 RX1 SX1 hn1 hO hr1 hOW hEO
                        refine hK.out _ _ (⟨EX2.out, CX2.out, RX2.out⟩) (fun hHeld => ?_)
                        clear hK K
                        show wpAnyH _ _ _ _ _ _ _ (Act.put _ (some 59) _) _
                        simp only [Act.put, List.setIfInBounds_toArray, List.set_cons_zero, List.set_cons_succ]
                        refine wpAnyH_ready (rs := [10]) (by kernel_rfl) (by simp) ?_
                        refine AllReadyH.cons rfl (fun K hK => ?_) AllReadyH.nil
                        refine step_lay rfl 51 1 _ rfl #[(0, .string (txt (ints p)))] (by simp [Act.eval]) _ _ (lay51 _ X2) ?_
                        have hB : Below X2.heap.size X2 (X2.alloc (.cells #[.string (txt (ints p))] 9)) := (Below.refl _ _).alloc (Nat.le_refl _) _
                        have hH : Blk (X2.alloc (.cells #[.string (txt (ints p))] 9)) X2.heap.size 9 ([.string (txt (ints p))]) := Blk.new X2 9 _
                        generalize X2.alloc (.cells #[.string (txt (ints p))] 9) = X3 at hB hH ⊢
                        obtain ⟨gm, hgm⟩ : ∃ q, X2.heap.size = q := ⟨_, rfl⟩
                        rw [hgm] at hH ⊢
                        clear hgm
                        have BX3 : Hid (Below W.heap.size W X3) := Lib.hid (BX2.out.trans (hB.mono BX2.out.size))
                        have LX3 : Hid (LogSt X3 W.heap.size W.heap.size b met Ks Xs) := Lib.hid (LX2.out.below_ hB)
                        have DX3 : Hid (Blk X3 gd 24 (w8 d)) := Lib.hid (DX2.out.below hB DX2.out.lt)
                        have CX3 : Hid (X3.cell? ⟨gP, oP + k, none⟩ = some (.slice Ai np ci)) := Lib.hid (HCELL.out _ BX3.out)
                        have EX3 : Hid (Blk X3 ge 52 (w8 ky)) := Lib.hid (EX2.out.below hB EX2.out.lt)
                        have RX3 : Hid (Src X3 W.heap.size Ai ci p) := Lib.hid (HSRC.out _ _ BX3.out (Nat.le_refl _))
                        have SX3 : Hid (X3.ownsRow W.heap.size 9 1 u7 j (tcells Xs)) := Lib.hid (row_below SX2.out hB)
                        have TX3 : Hid (X3.ownsRow W.heap.size 52 4 v1 (j + 1) (kcells (Ks ++ [ky]))) := Lib.hid (row_below TX2.out hB)
                        have HX3 : Hid (Blk X3 gm 9 ([.string (txt (ints p))])) := Lib.hid (hH)
                        clear BX2 LX2 DX2 CX2 EX2 RX2 SX2 TX2 hB hH
                        refine hK.out _ _ (⟨EX3.out, CX3.out, RX3.out⟩) (fun hHeld => ?_)
                        clear hK K
                        show wpAnyH _ _ _ _ _ _ _ (Act.put _ (some 66) _) _
                        simp only [Act.put, List.setIfInBounds_toArray, List.set_cons_zero, List.set_cons_succ]
                        refine wpAnyH_ready (rs := [11]) (by kernel_rfl) (by simp) ?_
                        refine AllReadyH.cons rfl (fun K hK => ?_) AllReadyH.nil
                        obtain ⟨v2, W2, hr2, hn2, hO⟩ := app_last SX3.out (by omega) HX3.out BX3.out.size
                        have hOW := SX3.out
                        have hEO := blk_ne EX3.out hOW (by decide)
                        refine step_append rfl (.tmp 60) (.tmp 66) 51 51 rfl v2 W2 (hr2) ?_
                        generalize W2 = X4 at hn2 hO ⊢
                        have BX4 : Hid (Below W.heap.size W X4) := Lib.hid (below_own BX3.out.size BX3.out hOW hO)
                        have LX4 : Hid (LogSt X4 W.heap.size W.heap.size b met Ks Xs) := Lib.hid (LX3.out.other hOW (by decide) (by decide) hO)
                        have DX4 : Hid (Blk X4 gd 24 (w8 d)) := Lib.hid (blk_other DX3.out hOW (by decide) hO)
                        have CX4 : Hid (X4.cell? ⟨gP, oP + k, none⟩ = some (.slice Ai np ci)) := Lib.hid (HCELL.out _ BX4.out)
                        have EX4 : Hid (Blk X4 ge 52 (w8 ky)) := Lib.hid (EX3.out.grown hO hEO)
                        have RX4 : Hid (Src X4 W.heap.size Ai ci p) := Lib.hid (HSRC.out _ _ BX4.out (Nat.le_refl _))
                        have TX4 : Hid (X4.ownsRow W.heap.size 52 4 v1 (j + 1) (kcells (Ks ++ [ky]))) := Lib.hid (row_other TX3.out hOW (by decide) hO)
                        have UX4 : Hid (X4.ownsRow W.heap.size 9 1 v2 (j + 1) (tcells (Xs ++ [p]))) := Lib.hid (hn2)
                        clear BX3 LX3 DX3 CX3 EX3 RX3 TX3 hn2 hO hr2 hOW hEO
                        refine hK.out _ _ (⟨EX4.out, CX4.out, RX4.out⟩) (fun hHeld => ?_)
                        clear hK K
                        show wpAnyH _ _ _ _ _ _ _ (Act.put _ (some 67) _) _
                        simp only [Act.put, List.setIfInBounds_toArray, List.set_cons_zero, List.set_cons_succ]
                        refine wpAnyH_take (i := 12) (v := v1) rfl (by kernel_rfl) (by kernel_rfl) (by kernel_rfl) (fun _ _ _ h => h) (Or.inl ⟨by rfl, fun w _ => by rfl⟩) hHeld ?_
                        show wpAnyH _ _ _ _ _ _ _ (Act.put _ (some 6) _) _
                        simp only [Act.put, List.setIfInBounds_toArray, List.set_cons_zero, List.set_cons_succ]
                        refine wpAnyH_take (i := 13) (v := v2) rfl (by kernel_rfl) (by kernel_rfl) (by kernel_rfl) (fun _ _ _ h => h) (Or.inl ⟨by rfl, fun w _ => by rfl⟩) hHeld ?_
                        show wpAnyH _ _ _ _ _ _ _ (Act.put _ (some 7) _) _
                        simp only [Act.put, List.setIfInBounds_toArray, List.set_cons_zero, List.set_cons_succ]
                        refine wpAnyH_done (by kernel_rfl) ?_ _
                        clear hHeld
                        go_wp2
                        go_meet
                        exact ⟨rfl, BX4, LX4, TX4, UX4, DX4⟩
                      · refine step_lay rfl 51 1 _ rfl #[(0, .string (txt (ints p)))] (by simp [Act.eval]) _ _ (lay51 _ X1) ?_
                        have hB : Below X1.heap.size X1 (X1.alloc (.cells #[.string (txt (ints p))] 9)) := (Below.refl _ _).alloc (Nat.le_refl _) _
                        have hH : Blk (X1.alloc (.cells #[.string (txt (ints p))] 9)) X1.heap.size 9 ([.string (txt (ints p))]) := Blk.new X1 9 _
                        generalize X1.alloc (.cells #[.string (txt (ints p))] 9) = X2 at hB hH ⊢
                        obtain ⟨gm, hgm⟩ : ∃ q, X1.heap.size = q := ⟨_, rfl⟩
                        rw [hgm] at hH ⊢
                        clear hgm
                        have BX2 : Hid (Below W.heap.size W X2) := Lib.hid (BX1.out.trans (hB.mono BX1.out.size))
                        have LX2 : Hid (LogSt X2 W.heap.size W.heap.size b met Ks Xs) := Lib.hid (LX1.out.below_ hB)
                        have DX2 : Hid (Blk X2 gd 24 (w8 d)) := Lib.hid (DX1.out.below hB DX1.out.lt)
                        have CX2 : Hid (X2.cell? ⟨gP, oP + k, none⟩ = some (.slice Ai np ci)) := Lib.hid (HCELL.out _ BX2.out)
                        have EX2 : Hid (Blk X2 ge 52 (w8 ky)) := Lib.hid (EX1.out.below hB EX1.out.lt)
                        have RX2 : Hid (Src X2 W.heap.size Ai ci p) := Lib.hid (HSRC.out _ _ BX2.out (Nat.le_refl _))
                        have PX2 : Hid (X2.ownsRow W.heap.size 52 4 (.slice ksA j ksc) j (kcells Ks)) := Lib.hid (row_below PX1.out hB)
                        have SX2 : Hid (X2.ownsRow W.heap.size 9 1 u7 j (tcells Xs)) := Lib.hid (row_below SX1.out hB)
                        have GX2 : Hid (Blk X2 gl 52 (w8 ky)) := Lib.hid (GX1.out.below hB GX1.out.lt)
                        have HX2 : Hid (Blk X2 gm 9 ([.string (txt (ints p))])) := Lib.hid (hH)
                        clear BX1 LX1 DX1 CX1 EX1 RX1 PX1 SX1 GX1 hB hH
                        refine hK.out _ _ (⟨EX2.out, CX2.out, RX2.out⟩) (fun hHeld => ?_)
                        clear hK K
                        show wpAnyH _ _ _ _ _ _ _ (Act.put _ (some 66) _) _
                        simp only [Act.put, List.setIfInBounds_toArray, List.set_cons_zero, List.set_cons_succ]
                        refine wpAnyH_ready (rs := [3]) (by kernel_rfl) (by simp) ?_
                        refine AllReadyH.cons rfl (fun K hK => ?_) AllReadyH.nil
                        obtain ⟨v1, W1, hr1, hn1, hO⟩ := app_keys PX2.out HNK.out (by omega) GX2.out HK4.out BX2.out.size
                        have hOW := PX2.out
                        have hEO : some ge ≠ (Value.slice ksA j ksc).ownBlock := HKG.out
                        refine step_append rfl (.tmp 56) (.tmp 58) 50 50 rfl v1 W1 (hr1) ?_
                        generalize W1 = X3 at hn1 hO ⊢
                        have BX3 : Hid (Below W.heap.size W X3) := Lib.hid (below_own BX2.out.size BX2.out hOW hO)
                        have LX3 : Hid (LogSt X3 W.heap.size W.heap.size b met Ks Xs) := Lib.hid (LX2.out.other hOW (by decide) (by decide) hO)
                        have DX3 : Hid (Blk X3 gd 24 (w8 d)) := Lib.hid (blk_other DX2.out hOW (by decide) hO)
                        have CX3 : Hid (X3.cell? ⟨gP, oP + k, none⟩ = some (.slice Ai np ci)) := Lib.hid (HCELL.out _ BX3.out)
                        have EX3 : Hid (Blk X3 ge 52 (w8 ky)) := Lib.hid (EX2.out.grown hO hEO)
                        have RX3 : Hid (Src X3 W.heap.size Ai ci p) := Lib.hid (HSRC.out _ _ BX3.out (Nat.le_refl _))
                        have SX3 : Hid (X3.ownsRow W.heap.size 9 1 u7 j (tcells Xs)) := Lib.hid (row_other SX2.out hOW (by decide) hO)
                        have HX3 : Hid (Blk X3 gm 9 ([.string (txt (ints p))])) := Lib.hid (blk_other HX2.out hOW (by decide) hO)
                        have TX3 : Hid (X3.ownsRow W.heap.size 52 4 v1 (j + 1) (kcells (Ks ++ [ky]))) := Lib.hid (hn1)
                        clear BX2 LX2 DX2 CX2 EX2 RX2 SX2 HX2 hn1 hO hr1 hOW hEO
                        refine hK.out _ _ (⟨EX3.out, CX3.out, RX3.out⟩) (fun hHeld => ?_)
                        clear hK K
                        show wpAnyH _ _ _ _ _ _ _ (Act.put _ (some 59) _) _
                        simp only [Act.put, List.setIfInBounds_toArray, List.set_cons_zero, List.set_cons_succ]
                        refine wpAnyH_ready (rs := [11]) (by kernel_rfl) (by simp) ?_
                        refine AllReadyH.cons rfl (fun K hK => ?_) AllReadyH.nil
                        obtain ⟨v2, W2, hr2, hn2, hO⟩ := app_last SX3.out (by omega) HX3.out BX3.out.size
                        have hOW := SX3.out
                        have hEO := blk_ne EX3.out hOW (by decide)
                        refine step_append rfl (.tmp 60) (.tmp 66) 51 51 rfl v2 W2 (hr2) ?_
                        generalize W2 = X4 at hn2 hO ⊢
                        have BX4 : Hid (Below W.heap.size W X4) := Lib.hid (below_own BX3.out.size BX3.out hOW hO)
                        have LX4 : Hid (LogSt X4 W.heap.size W.heap.size b met Ks Xs) := Lib.hid (LX3.out.other hOW (by decide) (by decide) hO)
                        have DX4 : Hid (Blk X4 gd 24 (w8 d)) := Lib.hid (blk_other DX3.out hOW (by decide) hO)
                        have CX4 : Hid (X4.cell? ⟨gP, oP + k, none⟩ = some (.slice Ai np ci)) := Lib.hid (HCELL.out _ BX4.out)
                        have EX4 : Hid (Blk X4 ge 52 (w8 ky)) := Lib.hid (EX3.out.grown hO hEO)
                        have RX4 : Hid (Src X4 W.heap.size Ai ci p) := Lib.hid (HSRC.out _ _ BX4.out (Nat.le_refl _))
                        have TX4 : Hid (X4.ownsRow W.heap.size 52 4 v1 (j + 1) (kcells (Ks ++ [ky]))) := Lib.hid (row_other TX3.out hOW (by decide) hO)
                        have UX4 : Hid (X4.ownsRow W.heap.size 9 1 v2 (j + 1) (tcells (Xs ++ [p]))) := Lib.hid (hn2)
                        clear BX3 LX3 DX3 CX3 EX3 RX3 TX3 hn2 hO hr2 hOW hEO
                        refine hK.out _ _ (⟨EX4.out, CX4.out, RX4.out⟩) (fun hHeld => ?_)
                        clear hK K
                        show wpAnyH _ _ _ _ _ _ _ (Act.put _ (some 67) _) _
                        simp only [Act.put, List.setIfInBounds_toArray, List.set_cons_zero, List.set_cons_succ]
                        refine wpAnyH_take (i := 12) (v := v1) rfl (by kernel_rfl) (by kernel_rfl) (by kernel_rfl) (fun _ _ _ h => h) (Or.inl ⟨by rfl, fun w _ => by rfl⟩) hHeld ?_
                        show wpAnyH _ _ _ _ _ _ _ (Act.put _ (some 6) _) _
                        simp only [Act.put, List.setIfInBounds_toArray, List.set_cons_zero, List.set_cons_succ]
                        refine wpAnyH_take (i := 13) (v := v2) rfl (by kernel_rfl) (by kernel_rfl) (by kernel_rfl) (fun _ _ _ h => h) (Or.inl ⟨by rfl, fun w _ => by rfl⟩) hHeld ?_
                        show wpAnyH _ _ _ _ _ _ _ (Act.put _ (some 7) _) _
                        simp only [Act.put, List.setIfInBounds_toArray, List.set_cons_zero, List.set_cons_succ]
                        refine wpAnyH_done (by kernel_rfl) ?_ _
                        clear hHeld
                        go_wp2
                        go_meet
                        exact ⟨rfl, BX4, LX4, TX4, UX4, DX4⟩
                    · refine step_lay rfl 51 1 _ rfl #[(0, .string (txt (ints p)))] (by simp [Act.eval]) _ _ (lay51 _ X0) ?_
                      have hB : Below X0.heap.size X0 (X0.alloc (.cells #[.string (txt (ints p))] 9)) := (Below.refl _ _).alloc (Nat.le_refl _) _
                      have hH : Blk (X0.alloc (.cells #[.string (txt (ints p))] 9)) X0.heap.size 9 ([.string (txt (ints p))]) := Blk.new X0 9 _
                      generalize X0.alloc (.cells #[.string (txt (ints p))] 9) = X1 at hB hH ⊢
                      obtain ⟨gm, hgm⟩ : ∃ q, X0.heap.size = q := ⟨_, rfl⟩
                      rw [hgm] at hH ⊢
                      clear hgm
                      have BX1 : Hid (Below W.heap.size W X1) := Lib.hid (BX0.out.trans (hB.mono BX0.out.size))
                      have LX1 : Hid (LogSt X1 W.heap.size W.heap.size b met Ks Xs) := Lib.hid (LX0.out.below_ hB)
                      have DX1 : Hid (Blk X1 gd 24 (w8 d)) := Lib.hid (DX0.out.below hB DX0.out.lt)
                      have CX1 : Hid (X1.cell? ⟨gP, oP + k, none⟩ = some (.slice Ai np ci)) := Lib.hid (HCELL.out _ BX1.out)
                      have EX1 : Hid (Blk X1 ge 52 (w8 ky)) := Lib.hid (EX0.out.below hB EX0.out.lt)
                      have RX1 : Hid (Src X1 W.heap.size Ai ci p) := Lib.hid (HSRC.out _ _ BX1.out (Nat.le_refl _))
                      have PX1 : Hid (X1.ownsRow W.heap.size 52 4 (.slice ksA j ksc) j (kcells Ks)) := Lib.hid (row_below PX0.out hB)
                      have SX1 : Hid (X1.ownsRow W.heap.size 9 1 u7 j (tcells Xs)) := Lib.hid (row_below SX0.out hB)
                      have HX1 : Hid (Blk X1 gm 9 ([.string (txt (ints p))])) := Lib.hid (hH)
                      clear BX0 LX0 DX0 CX0 EX0 RX0 PX0 SX0 hB hH
                      refine hK.out _ _ (⟨EX1.out, CX1.out, RX1.out⟩) (fun hHeld => ?_)
                      clear hK K
                      show wpAnyH _ _ _ _ _ _ _ (Act.put _ (some 66) _) _
                      simp only [Act.put, List.setIfInBounds_toArray, List.set_cons_zero, List.set_cons_succ]
                      refine wpAnyH_ready (rs := [2]) (by kernel_rfl) (by simp) ?_
                      refine AllReadyH.cons rfl (fun K hK => ?_) AllReadyH.nil
                      refine step_lay rfl 50 1 _ rfl #[(0, .agg (w8 ky).toArray)] (by simp [Act.eval]) _ _ (lay50 ky HK4.out X1) ?_
                      have hB : Below X1.heap.size X1 (X1.alloc (.cells (w8 ky).toArray 52)) := (Below.refl _ _).alloc (Nat.le_refl _) _
                      have hG : Blk (X1.alloc (.cells (w8 ky).toArray 52)) X1.heap.size 52 (w8 ky) := Blk.new X1 52 _
                      generalize X1.alloc (.cells (w8 ky).toArray 52) = X2 at hB hG ⊢
                      obtain ⟨gl, hgl⟩ : ∃ q, X1.heap.size = q := ⟨_, rfl⟩
                      rw [hgl] at hG ⊢
                      clear hgl
                      have BX2 : Hid (Below W.heap.size W X2) := Lib.hid (BX1.out.trans (hB.mono BX1.out.size))
                      have LX2 : Hid (LogSt X2 W.heap.size W.heap.size b met Ks Xs) := Lib.hid (LX1.out.below_ hB)
                      have DX2 : Hid (Blk X2 gd 24 (w8 d)) := Lib.hid (DX1.out.below hB DX1.out.lt)
                      have CX2 : Hid (X2.cell? ⟨gP, oP + k, none⟩ = some (.slice Ai np ci)) := Lib.hid (HCELL.out _ BX2.out)
                      have EX2 : Hid (Blk X2 ge 52 (w8 ky)) := Lib.hid (EX1.out.below hB EX1.out.lt)
                      have RX2 : Hid (Src X2 W.heap.size Ai ci p) := Lib.hid (HSRC.out _ _ BX2.out (Nat.le_refl _))
                      have PX2 : Hid (X2.ownsRow W.heap.size 52 4 (.slice ksA j ksc) j (kcells Ks)) := Lib.hid (row_below PX1.out hB)
                      have SX2 : Hid (X2.ownsRow W.heap.size 9 1 u7 j (tcells Xs)) := Lib.hid (row_below SX1.out hB)
                      have HX2 : Hid (Blk X2 gm 9 ([.string (txt (ints p))])) := Lib.hid (HX1.out.below hB HX1.out.lt)
                      have GX2 : Hid (Blk X2 gl 52 (w8 ky)) := Lib.hid (hG)
                      clear BX1 LX1 DX1 CX1 EX1 RX1 PX1 SX1 HX1 hB hG
                      refine hK.out _ _ (⟨EX2.out, CX2.out, RX2.out⟩) (fun hHeld => ?_)
                      clear hK K
                      show wpAnyH _ _ _ _ _ _ _ (Act.put _ (some 58) _) _
                      simp only [Act.put, List.setIfInBounds_toArray, List.set_cons_zero, List.set_cons_succ]
                      refine wpAnyH_ready (rs := [3]) (by kernel_rfl) (by simp) ?_
                      refine AllReadyH.cons rfl (fun K hK => ?_) AllReadyH.nil
                      obtain ⟨v1, W1, hr1, hn1, hO⟩ := app_keys PX2.out HNK.out (by omega) GX2.out HK4.out BX2.out.size
                      have hOW := PX2.out
                      have hEO : some ge ≠ (Value.slice ksA j ksc).ownBlock := HKG.out
                      refine step_append rfl (.tmp 56) (.tmp 58) 50 50 rfl v1 W1 (hr1) ?_
                      generalize W1 = X3 at hn1 hO ⊢
                      have BX3 : Hid (Below W.heap.size W X3) := Lib.hid (below_own BX2.out.size BX2.out hOW hO)
                      have LX3 : Hid (LogSt X3 W.heap.size W.heap.size b met Ks Xs) := Lib.hid (LX2.out.other hOW (by decide) (by decide) hO)
                      have DX3 : Hid (Blk X3 gd 24 (w8 d)) := Lib.hid (blk_other DX2.out hOW (by decide) hO)
                      have CX3 : Hid (X3.cell? ⟨gP, oP + k, none⟩ = some (.slice Ai np ci)) := Lib.hid (HCELL.out _ BX3.out)
                      have EX3 : Hid (Blk X3 ge 52 (w8 ky)) := Lib.hid (EX2.out.grown hO hEO)
                      have RX3 : Hid (Src X3 W.heap.size Ai ci p) := Lib.hid (HSRC.out _ _ BX3.out (Nat.le_refl _))
                      have SX3 : Hid (X3.ownsRow W.heap.size 9 1 u7 j (tcells Xs)) := Lib.hid (row_other SX2.out hOW (by decide) hO)
                      have HX3 : Hid (Blk X3 gm 9 ([.string (txt (ints p))])) := Lib.hid (blk_other HX2.out hOW (by decide) hO)
                      have TX3 : Hid (X3.ownsRow W.heap.size 52 4 v1 (j + 1) (kcells (Ks ++ [ky]))) := Lib.hid (hn1)
                      clear BX2 LX2 DX2 CX2 EX2 RX2 SX2 HX2 hn1 hO hr1 hOW hEO
                      refine hK.out _ _ (⟨EX3.out, CX3.out, RX3.out⟩) (fun hHeld => ?_)
                      clear hK K
                      show wpAnyH _ _ _ _ _ _ _ (Act.put _ (some 59) _) _
                      simp only [Act.put, List.setIfInBounds_toArray, List.set_cons_zero, List.set_cons_succ]
                      refine wpAnyH_ready (rs := [11]) (by kernel_rfl) (by simp) ?_
                      refine AllReadyH.cons rfl (fun K hK => ?_) AllReadyH.nil
                      obtain ⟨v2, W2, hr2, hn2, hO⟩ := app_last SX3.out (by omega) HX3.out BX3.out.size
                      have hOW := SX3.out
                      have hEO := blk_ne EX3.out hOW (by decide)
                      refine step_append rfl (.tmp 60) (.tmp 66) 51 51 rfl v2 W2 (hr2) ?_
                      generalize W2 = X4 at hn2 hO ⊢
                      have BX4 : Hid (Below W.heap.size W X4) := Lib.hid (below_own BX3.out.size BX3.out hOW hO)
                      have LX4 : Hid (LogSt X4 W.heap.size W.heap.size b met Ks Xs) := Lib.hid (LX3.out.other hOW (by decide) (by decide) hO)
                      have DX4 : Hid (Blk X4 gd 24 (w8 d)) := Lib.hid (blk_other DX3.out hOW (by decide) hO)
                      have CX4 : Hid (X4.cell? ⟨gP, oP + k, none⟩ = some (.slice Ai np ci)) := Lib.hid (HCELL.out _ BX4.out)
                      have EX4 : Hid (Blk X4 ge 52 (w8 ky)) := Lib.hid (EX3.out.grown hO hEO)
                      have RX4 : Hid (Src X4 W.heap.size Ai ci p) := Lib.hid (HSRC.out _ _ BX4.out (Nat.le_refl _))
                      have TX4 : Hid (X4.ownsRow W.heap.size 52 4 v1 (j + 1) (kcells (Ks ++ [ky]))) := Lib.hid (row_other TX3.out hOW (by decide) hO)
                      have UX4 : Hid (X4.ownsRow W.heap.size 9 1 v2 (j + 1) (tcells (Xs ++ [p]))) := Lib.hid (hn2)
                      clear BX3 LX3 DX3 CX3 EX3 RX3 TX3 hn2 hO hr2 hOW hEO
                      refine hK.out _ _ (⟨EX4.out, CX4.out, RX4.out⟩) (fun hHeld => ?_)
                      clear hK K
                      show wpAnyH _ _ _ _ _ _ _ (Act.put _ (some 67) _) _
                      simp only [Act.put, List.setIfInBounds_toArray, List.set_cons_zero, List.set_cons_succ]
                      refine wpAnyH_take (i := 12) (v := v1) rfl (by kernel_rfl) (by kernel_rfl) (by kernel_rfl) (fun _ _ _ h => h) (Or.inl ⟨by rfl, fun w _ => by rfl⟩) hHeld ?_
                      show wpAnyH _ _ _ _ _ _ _ (Act.put _ (some 6) _) _
                      simp only [Act.put, List.setIfInBounds_toArray, List.set_cons_zero, List.set_cons_succ]
                      refine wpAnyH_take (i := 13) (v := v2) rfl (by kernel_rfl) (by kernel_rfl) (by kernel_rfl) (fun _ _ _ h => h) (Or.inl ⟨by rfl, fun w _ => by rfl⟩) hHeld ?_
                      show wpAnyH _ _ _ _ _ _ _ (Act.put _ (some 7) _) _
                      simp only [Act.put, List.setIfInBounds_toArray, List.set_cons_zero, List.set_cons_succ]
                      refine wpAnyH_done (by kernel_rfl) ?_ _
                      clear hHeld
                      go_wp2
                      go_meet
                      exact ⟨rfl, BX4, LX4, TX4, UX4, DX4⟩
                  case rest =>
                    clear B4 L4 P4 S4 D4 E4 C4 R4 hi52k
                    obtain ⟨rfl, B5, L5, P5, S5, D5⟩ := hcut
                    generalize wc = w5 at B5 L5 P5 S5 D5 ⊢
                    obtain ⟨m, hm⟩ : ∃ m, j + 1 = m := ⟨_, rfl⟩
                    rw [hm] at P5 S5
                    have HLN : Hid ((Ks ++ [ky]).length = m) := Lib.hid (by rw [List.length_append, HNK.out]; exact hm)
                    have HMK : Hid (m ≤ k + 1) := Lib.hid (by have := HK9.out; rw [HNK.out] at this; omega)
                    clear hm
                    obtain ⟨A6, c6, rfl⟩ := own_form P5.out
                    have hi24 : (Tryd.prog.info? 24).map (·.size) = some (w8 d).length := by rw [w8_length, H32.out]; exact info24s
                    have C5 : Hid (w5.cell? ⟨gP, oP + k, none⟩ = some (.slice Ai np ci)) := Lib.hid (HCELL.out _ B5.out)
                    go_upto_region 21 with fail
                    have hBz : Below w5.heap.size w5 w5.drew := below_drewN (Below.refl _ _) 1
                    have BX0 : Hid (Below W.heap.size W w5.drew) := Lib.hid ((by first | exact B5.out.trans (hBz.mono B5.out.size) | exact B5.out.trans hKept.below))
                    have LX0 : Hid (LogSt w5.drew W.heap.size W.heap.size b met (Ks) (Xs)) := Lib.hid (L5.out.below_ hBz)
                    have DX0 : Hid (Blk w5.drew gd 24 (w8 d)) := Lib.hid ((by first | exact D5.out.below hBz D5.out.lt | exact hKept.rows _ _ _ (by decide) D5.out))
                    have CX0 : Hid (w5.drew.cell? ⟨gP, oP + k, none⟩ = some (.slice Ai np ci)) := Lib.hid (HCELL.out _ BX0.out)
                    have PX0 : Hid (w5.drew.ownsRow W.heap.size 52 4 (.slice A6 m c6) m (kcells (Ks ++ [ky]))) := Lib.hid ((by first | exact row_below P5.out hBz | exact hKept.row (by decide) P5.out))
                    have SX0 : Hid (w5.drew.ownsRow W.heap.size 9 1 u7 m (tcells (Xs ++ [p]))) := Lib.hid ((by first | exact row_below S5.out hBz | exact hKept.row (by decide) S5.out))
                    clear hBz
                    refine wp_region_held_drew (S := fun w' => Blk w' gd 24 (w8 d) ∧ w'.cell? ⟨gP, oP + k, none⟩ = some (.slice Ai np ci)) (by kernel_rfl) (⟨DX0.out, CX0.out⟩) (fun hHeld => ?_)
                    generalize w5.drew = X0 at hHeld BX0 LX0 DX0 CX0 PX0 SX0 ⊢
                    refine wpAnyH_take (i := 0) (v := .agg (w8 d).toArray) rfl (by kernel_rfl) (by kernel_rfl) (by kernel_rfl) (fun _ _ _ h => h) (yieldsIf_load_mid (by rfl) 24 (.tmp 10) rfl gd 0 rfl (w8 d) _ (fun w h => Blk.all h.1) Tryd.underlying24 rfl hi24) hHeld ?_
                    show wpAnyH _ _ _ _ _ _ _ (Act.put _ (some 89) _) _
                    simp only [Act.put, List.setIfInBounds_toArray, List.set_cons_zero, List.set_cons_succ]
                    refine wpAnyH_take (i := 1) (v := .slice (some ⟨gP, oP, none⟩) n1 c1) rfl (by kernel_rfl) (by kernel_rfl) (by kernel_rfl) (fun _ _ _ h => h) (Or.inl ⟨by rfl, fun w _ => by rfl⟩) hHeld ?_
                    show wpAnyH _ _ _ _ _ _ _ (Act.put _ (some 90) _) _
                    simp only [Act.put, List.setIfInBounds_toArray, List.set_cons_zero, List.set_cons_succ]
                    refine wpAnyH_take (i := 2) (v := .int .i64 (k : Int)) rfl (by kernel_rfl) (by kernel_rfl) (by kernel_rfl) (fun _ _ _ h => h) (Or.inl ⟨by rfl, fun w _ => by rfl⟩) hHeld ?_
                    show wpAnyH _ _ _ _ _ _ _ (Act.put _ (some 91) _) _
                    simp only [Act.put, List.setIfInBounds_toArray, List.set_cons_zero, List.set_cons_succ]
                    refine wpAnyH_take (i := 3) (v := .pointer (some ⟨gP, oP + k, none⟩)) rfl (by kernel_rfl) (by kernel_rfl) (by kernel_rfl) (fun _ _ _ h => h) (Or.inl ⟨by rfl, by intro w' h; go_simp⟩) hHeld ?_
                    show wpAnyH _ _ _ _ _ _ _ (Act.put _ (some 92) _) _
                    simp only [Act.put, List.setIfInBounds_toArray, List.set_cons_zero, List.set_cons_succ]
                    refine wpAnyH_take (i := 4) (v := .slice Ai np ci) rfl (by kernel_rfl) (by kernel_rfl) (by kernel_rfl) (fun _ _ _ h => h) (Or.inl ⟨by rfl, by intro w' h; have hq := h.2; go_simp⟩) hHeld ?_
                    show wpAnyH _ _ _ _ _ _ _ (Act.put _ (some 93) _) _
                    simp only [Act.put, List.setIfInBounds_toArray, List.set_cons_zero, List.set_cons_succ]
                    refine wpAnyH_ready (rs := [5]) (by kernel_rfl) (by simp) ?_
                    refine AllReadyH.cons rfl (fun K hK => ?_) AllReadyH.nil
                    refine step_call rfl 21 #[.tmp 5, .tmp 89, .tmp 93] #[49, 25, 22] rfl #[.pointer (some ⟨W.heap.size, 0, none⟩), .agg (w8 d).toArray, .slice Ai np ci] (by simp [Act.eval]) (by go_simp) ((by have := note_add (x := p) LX0.out BX0.out.size H32.out HDB.out (HSRC.out X0 W.heap.size BX0.out (Nat.le_refl _)) HNP.out HNP5.out HNEW.out; rwa [HKD.out] at this)) ?_
                    rintro e X1 ⟨rfl, ⟨b2, hL2⟩, hKept⟩
                    have BX1 : Hid (Below W.heap.size W X1) := Lib.hid ((by first | exact BX0.out.trans (hB.mono BX0.out.size) | exact BX0.out.trans hKept.below))
                    have DX1 : Hid (Blk X1 gd 24 (w8 d)) := Lib.hid ((by first | exact DX0.out.below hB DX0.out.lt | exact hKept.rows _ _ _ (by decide) DX0.out))
                    have CX1 : Hid (X1.cell? ⟨gP, oP + k, none⟩ = some (.slice Ai np ci)) := Lib.hid (HCELL.out _ BX1.out)
                    have PX1 : Hid (X1.ownsRow W.heap.size 52 4 (.slice A6 m c6) m (kcells (Ks ++ [ky]))) := Lib.hid ((by first | exact row_below PX0.out hB | exact hKept.row (by decide) PX0.out))
                    have SX1 : Hid (X1.ownsRow W.heap.size 9 1 u7 m (tcells (Xs ++ [p]))) := Lib.hid ((by first | exact row_below SX0.out hB | exact hKept.row (by decide) SX0.out))
                    have LX1 : Hid (LogSt X1 W.heap.size W.heap.size b2 met (Ks ++ [ky]) (Xs ++ [p])) := Lib.hid (hL2)
                    clear BX0 DX0 CX0 PX0 SX0 hKept hL2
                    refine ⟨_, rfl, hK.out _ _ (⟨DX1.out, CX1.out⟩) (fun hHeld => ?_)⟩
                    clear hK K
                    show wpAnyH _ _ _ _ _ _ _ (Act.put _ (some 94) _) _
                    simp only [Act.put, List.setIfInBounds_toArray, List.set_cons_zero, List.set_cons_succ]
                    refine wpAnyH_done (by kernel_rfl) ?_ _
                    clear hHeld hi24
                    go_wp2_with fail
                    refine (met_any W.heap.size (.map b2) met X1 (Lib.hid LX1.out.blk)).mono ?_
                    rintro e w10 ⟨rfl, rfl⟩
                    go_wp2_with fail
                    refine (many_st LX1.out m HLN.out).mono ?_
                    rintro e w10 ⟨rfl, rfl⟩
                    go_wp2_with fail
                    exact ⟨⟨k + 1, b2, met, Ks ++ [ky], Xs ++ [p], rfl, rfl, by omega, by omega, by rw [HLN.out]; exact HMK.out, LX1, by rw [HLN.out]; exact PX1, by rw [HLN.out]; exact SX1, BX1⟩, by show n0 - (k + 1) < n0 - k; omega⟩
                · rw [h1]
                  have jj0 : (0 : Int) ≤ (jj : Int) := Int.natCast_nonneg _
                  have jjn : (jj : Int) < (j : Int) := by omega
                  have jjn' : ¬ ((jj : Int) < 0) := by omega
                  obtain ⟨A7, c7, rfl⟩ := own_form S4.out
                  obtain ⟨gs, rfl, hgsB, hgs, hcl, hfl⟩ := trow_at S4.out (by rw [L4.out.len, HNK.out]) jj hjj
                  have hxs : (Xs.getD jj []).length ≤ 500 ∧ ∀ y ∈ Xs.getD jj [], y < 256 := L4.out.small _ (by have := L4.out.len; rw [HNK.out] at this; simp [List.getD, show jj < Xs.length by omega])
                  obtain ⟨xj, hxj⟩ : ∃ x, Xs.getD jj [] = x := ⟨_, rfl⟩
                  rw [hxj] at hcl hxs
                  have HXJ := Lib.hid hxj
                  have HXS := Lib.hid hxs.2
                  have HJK : Hid (jj < Ks.length ∧ Ks.getD jj [] = ky) := Lib.hid ⟨by rw [HNK.out]; exact hjj, h3⟩
                  have HCL := Lib.hid hcl
                  have HJJ := Lib.hid hjj
                  have HFL := Lib.hid hfl
                  have HGS := Lib.hid hgsB
                  have HMK : Hid (j ≤ k + 1) := Lib.hid (by have := HK9.out; rw [HNK.out] at this; omega)
                  have hcc := C4.out
                  have hst := fun w' (h : Src w' W.heap.size Ai ci p) => to_string w' _ Ai ci np p HNP.out.symm h
                  have hst4 := hst w4 R4.out
                  clear h1 h3 hxj hxs hgsB hjj hst
                  go_upto_region 19 with fail
                  have hset : ∀ (w : World) (n : Nat) (a : Addr) (v : Value), (w.drewN n).setCell a v = (w.setCell a v).drewN n := fun _ _ _ _ => rfl
                  have hst9 : ∀ n, (convert 22 9 (.slice Ai np ci)).run Tryd.prog (w4.drewN n) = .ok (.string (txt (ints p))) (w4.drewN n) := fun n => to_string (w4.drewN n) W.heap.size Ai ci np p HNP.out.symm ⟨R4.out.le, R4.out.at_, R4.out.lt⟩
                  obtain ⟨hS5, hG5⟩ := trow_set (p := p) S4.out jj HJJ.out
                  have hOW := S4.out
                  have B5 : Hid (Below W.heap.size W (w4.setCell ⟨gs, jj, none⟩ (.string (txt (ints p))))) := Lib.hid (below_own B4.out.size B4.out hOW hG5)
                  have L5 : Hid (LogSt (w4.setCell ⟨gs, jj, none⟩ (.string (txt (ints p)))) W.heap.size W.heap.size b met Ks Xs) := Lib.hid (L4.out.other hOW (by decide) (by decide) hG5)
                  have P5 : Hid ((w4.setCell ⟨gs, jj, none⟩ (.string (txt (ints p)))).ownsRow W.heap.size 52 4 (.slice ksA j ksc) j (kcells Ks)) := Lib.hid (row_other P4.out hOW (by decide) hG5)
                  have D5 : Hid (Blk (w4.setCell ⟨gs, jj, none⟩ (.string (txt (ints p)))) gd 24 (w8 d)) := Lib.hid (blk_other D4.out hOW (by decide) hG5)
                  have S5 := Lib.hid hS5
                  clear hS5 hG5 hOW B4 L4 P4 S4 D4 E4 C4 R4
                  cases met with
                  | true =>
                    go_quiet (fail)
                    go_upto_region 21 with fail
                    generalize hw5 : (w4.setCell ⟨gs, jj, none⟩ (.string (txt (ints p)))).drewN _ = w5
                    have hBq : Below (w4.setCell ⟨gs, jj, none⟩ (.string (txt (ints p)))).heap.size (w4.setCell ⟨gs, jj, none⟩ (.string (txt (ints p)))) w5 := by rw [← hw5]; exact below_drewN (Below.refl _ _) _
                    have B6 : Hid (Below W.heap.size W w5) := Lib.hid (B5.out.trans (hBq.mono B5.out.size))
                    have L6 := Lib.hid (L5.out.below_ hBq)
                    have P6 := Lib.hid (row_below P5.out hBq)
                    have S6 := Lib.hid (row_below S5.out hBq)
                    have D6 := Lib.hid (D5.out.below hBq D5.out.lt)
                    clear hw5 hBq B5 L5 P5 S5 D5 hst4 hst9 hset hcc hgs hfl
                    have hi24 : (Tryd.prog.info? 24).map (·.size) = some (w8 d).length := by rw [w8_length, H32.out]; exact info24s
                    have C6 : Hid (w5.cell? ⟨gP, oP + k, none⟩ = some (.slice Ai np ci)) := Lib.hid (HCELL.out _ B6.out)
                    have hBz : Below w5.heap.size w5 w5.drew := below_drewN (Below.refl _ _) 1
                    have BX0 : Hid (Below W.heap.size W w5.drew) := Lib.hid ((by first | exact B6.out.trans (hBz.mono B6.out.size) | exact B6.out.trans hKept.below))
                    have LX0 : Hid (LogSt w5.drew W.heap.size W.heap.size b true (Ks) (Xs)) := Lib.hid (L6.out.below_ hBz)
                    have DX0 : Hid (Blk w5.drew gd 24 (w8 d)) := Lib.hid ((by first | exact D6.out.below hBz D6.out.lt | exact hKept.rows _ _ _ (by decide) D6.out))
                    have CX0 : Hid (w5.drew.cell? ⟨gP, oP + k, none⟩ = some (.slice Ai np ci)) := Lib.hid (HCELL.out _ BX0.out)
                    have PX0 : Hid (w5.drew.ownsRow W.heap.size 52 4 (.slice ksA j ksc) j (kcells (Ks))) := Lib.hid ((by first | exact row_below P6.out hBz | exact hKept.row (by decide) P6.out))
                    have SX0 : Hid (w5.drew.ownsRow W.heap.size 9 1 (.slice (some ⟨gs, 0, none⟩) j c7) j (tcells (Xs.set jj p))) := Lib.hid ((by first | exact row_below S6.out hBz | exact hKept.row (by decide) S6.out))
                    clear hBz
                    refine wp_region_held_drew (S := fun w' => Blk w' gd 24 (w8 d) ∧ w'.cell? ⟨gP, oP + k, none⟩ = some (.slice Ai np ci)) (by kernel_rfl) (⟨DX0.out, CX0.out⟩) (fun hHeld => ?_)
                    generalize w5.drew = X0 at hHeld BX0 LX0 DX0 CX0 PX0 SX0 ⊢
                    refine wpAnyH_take (i := 0) (v := .agg (w8 d).toArray) rfl (by kernel_rfl) (by kernel_rfl) (by kernel_rfl) (fun _ _ _ h => h) (yieldsIf_load_mid (by rfl) 24 (.tmp 10) rfl gd 0 rfl (w8 d) _ (fun w h => Blk.all h.1) Tryd.underlying24 rfl hi24) hHeld ?_
                    show wpAnyH _ _ _ _ _ _ _ (Act.put _ (some 89) _) _
                    simp only [Act.put, List.setIfInBounds_toArray, List.set_cons_zero, List.set_cons_succ]
                    refine wpAnyH_take (i := 1) (v := .slice (some ⟨gP, oP, none⟩) n1 c1) rfl (by kernel_rfl) (by kernel_rfl) (by kernel_rfl) (fun _ _ _ h => h) (Or.inl ⟨by rfl, fun w _ => by rfl⟩) hHeld ?_
                    show wpAnyH _ _ _ _ _ _ _ (Act.put _ (some 90) _) _
                    simp only [Act.put, List.setIfInBounds_toArray, List.set_cons_zero, List.set_cons_succ]
                    refine wpAnyH_take (i := 2) (v := .int .i64 (k : Int)) rfl (by kernel_rfl) (by kernel_rfl) (by kernel_rfl) (fun _ _ _ h => h) (Or.inl ⟨by rfl, fun w _ => by rfl⟩) hHeld ?_
                    show wpAnyH _ _ _ _ _ _ _ (Act.put _ (some 91) _) _
                    simp only [Act.put, List.setIfInBounds_toArray, List.set_cons_zero, List.set_cons_succ]
                    refine wpAnyH_take (i := 3) (v := .pointer (some ⟨gP, oP + k, none⟩)) rfl (by kernel_rfl) (by kernel_rfl) (by kernel_rfl) (fun _ _ _ h => h) (Or.inl ⟨by rfl, by intro w' h; go_simp⟩) hHeld ?_
                    show wpAnyH _ _ _ _ _ _ _ (Act.put _ (some 92) _) _
                    simp only [Act.put, List.setIfInBounds_toArray, List.set_cons_zero, List.set_cons_succ]
                    refine wpAnyH_take (i := 4) (v := .slice Ai np ci) rfl (by kernel_rfl) (by kernel_rfl) (by kernel_rfl) (fun _ _ _ h => h) (Or.inl ⟨by rfl, by intro w' h; have hq := h.2; go_simp⟩) hHeld ?_
                    show wpAnyH _ _ _ _ _ _ _ (Act.put _ (some 93) _) _
                    simp only [Act.put, List.setIfInBounds_toArray, List.set_cons_zero, List.set_cons_succ]
                    refine wpAnyH_ready (rs := [5]) (by kernel_rfl) (by simp) ?_
                    refine AllReadyH.cons rfl (fun K hK => ?_) AllReadyH.nil
                    refine step_call rfl 21 #[.tmp 5, .tmp 89, .tmp 93] #[49, 25, 22] rfl #[.pointer (some ⟨W.heap.size, 0, none⟩), .agg (w8 d).toArray, .slice Ai np ci] (by simp [Act.eval]) (by go_simp) ((by have := note_again (x := p) LX0.out BX0.out.size H32.out HDB.out (HSRC.out X0 W.heap.size BX0.out (Nat.le_refl _)) HNP.out HNP5.out jj HJK.out.1 (HJK.out.2.trans HKD.out.symm); exact this)) ?_
                    rintro e X1 ⟨rfl, ⟨b2, hL2⟩, hKept⟩
                    have BX1 : Hid (Below W.heap.size W X1) := Lib.hid ((by first | exact BX0.out.trans (hB.mono BX0.out.size) | exact BX0.out.trans hKept.below))
                    have DX1 : Hid (Blk X1 gd 24 (w8 d)) := Lib.hid ((by first | exact DX0.out.below hB DX0.out.lt | exact hKept.rows _ _ _ (by decide) DX0.out))
                    have CX1 : Hid (X1.cell? ⟨gP, oP + k, none⟩ = some (.slice Ai np ci)) := Lib.hid (HCELL.out _ BX1.out)
                    have PX1 : Hid (X1.ownsRow W.heap.size 52 4 (.slice ksA j ksc) j (kcells (Ks))) := Lib.hid ((by first | exact row_below PX0.out hB | exact hKept.row (by decide) PX0.out))
                    have SX1 : Hid (X1.ownsRow W.heap.size 9 1 (.slice (some ⟨gs, 0, none⟩) j c7) j (tcells (Xs.set jj p))) := Lib.hid ((by first | exact row_below SX0.out hB | exact hKept.row (by decide) SX0.out))
                    have LX1 : Hid (LogSt X1 W.heap.size W.heap.size b2 true (Ks) (Xs.set jj p)) := Lib.hid (hL2)
                    clear BX0 DX0 CX0 PX0 SX0 hKept hL2
                    refine ⟨_, rfl, hK.out _ _ (⟨DX1.out, CX1.out⟩) (fun hHeld => ?_)⟩
                    clear hK K
                    show wpAnyH _ _ _ _ _ _ _ (Act.put _ (some 94) _) _
                    simp only [Act.put, List.setIfInBounds_toArray, List.set_cons_zero, List.set_cons_succ]
                    refine wpAnyH_done (by kernel_rfl) ?_ _
                    clear hHeld hi24
                    go_wp2_with fail
                    refine (met_any W.heap.size (.map b2) true X1 (Lib.hid LX1.out.blk)).mono ?_
                    rintro e w10 ⟨rfl, rfl⟩
                    go_wp2_with fail
                    refine (many_st LX1.out j HNK.out).mono ?_
                    rintro e w10 ⟨rfl, rfl⟩
                    go_wp2_with fail
                    exact ⟨⟨k + 1, b2, true, Ks, Xs.set jj p, rfl, rfl, by omega, by omega, by rw [HNK.out]; exact HMK.out, LX1, by rw [HNK.out]; exact PX1, by rw [HNK.out]; exact SX1, BX1⟩, by show n0 - (k + 1) < n0 - k; omega⟩
                  | false =>
                    by_cases hxy : xj = p
                    · have hcl2 : w4.cell? ⟨gs, jj, none⟩ = some (.string (txt (ints p))) := by rw [← hxy]; exact HCL.out
                      have HXY := Lib.hid hxy
                      clear hcl HCL hxy
                      go_quiet (fail)
                      go_upto_region 21 with fail
                      generalize hw5 : (w4.setCell ⟨gs, jj, none⟩ (.string (txt (ints p)))).drewN _ = w5
                      have hBq : Below (w4.setCell ⟨gs, jj, none⟩ (.string (txt (ints p)))).heap.size (w4.setCell ⟨gs, jj, none⟩ (.string (txt (ints p)))) w5 := by rw [← hw5]; exact below_drewN (Below.refl _ _) _
                      have B6 : Hid (Below W.heap.size W w5) := Lib.hid (B5.out.trans (hBq.mono B5.out.size))
                      have L6 := Lib.hid (L5.out.below_ hBq)
                      have P6 := Lib.hid (row_below P5.out hBq)
                      have S6 := Lib.hid (row_below S5.out hBq)
                      have D6 := Lib.hid (D5.out.below hBq D5.out.lt)
                      clear hw5 hBq B5 L5 P5 S5 D5 hst4 hst9 hset hcc hgs hfl
                      have hi24 : (Tryd.prog.info? 24).map (·.size) = some (w8 d).length := by rw [w8_length, H32.out]; exact info24s
                      have C6 : Hid (w5.cell? ⟨gP, oP + k, none⟩ = some (.slice Ai np ci)) := Lib.hid (HCELL.out _ B6.out)
                      have hBz : Below w5.heap.size w5 w5.drew := below_drewN (Below.refl _ _) 1
                      have BX0 : Hid (Below W.heap.size W w5.drew) := Lib.hid ((by first | exact B6.out.trans (hBz.mono B6.out.size) | exact B6.out.trans hKept.below))
                      have LX0 : Hid (LogSt w5.drew W.heap.size W.heap.size b false (Ks) (Xs)) := Lib.hid (L6.out.below_ hBz)
                      have DX0 : Hid (Blk w5.drew gd 24 (w8 d)) := Lib.hid ((by first | exact D6.out.below hBz D6.out.lt | exact hKept.rows _ _ _ (by decide) D6.out))
                      have CX0 : Hid (w5.drew.cell? ⟨gP, oP + k, none⟩ = some (.slice Ai np ci)) := Lib.hid (HCELL.out _ BX0.out)
                      have PX0 : Hid (w5.drew.ownsRow W.heap.size 52 4 (.slice ksA j ksc) j (kcells (Ks))) := Lib.hid ((by first | exact row_below P6.out hBz | exact hKept.row (by decide) P6.out))
                      have SX0 : Hid (w5.drew.ownsRow W.heap.size 9 1 (.slice (some ⟨gs, 0, none⟩) j c7) j (tcells (Xs.set jj p))) := Lib.hid ((by first | exact row_below S6.out hBz | exact hKept.row (by decide) S6.out))
                      clear hBz
                      refine wp_region_held_drew (S := fun w' => Blk w' gd 24 (w8 d) ∧ w'.cell? ⟨gP, oP + k, none⟩ = some (.slice Ai np ci)) (by kernel_rfl) (⟨DX0.out, CX0.out⟩) (fun hHeld => ?_)
                      generalize w5.drew = X0 at hHeld BX0 LX0 DX0 CX0 PX0 SX0 ⊢
                      refine wpAnyH_take (i := 0) (v := .agg (w8 d).toArray) rfl (by kernel_rfl) (by kernel_rfl) (by kernel_rfl) (fun _ _ _ h => h) (yieldsIf_load_mid (by rfl) 24 (.tmp 10) rfl gd 0 rfl (w8 d) _ (fun w h => Blk.all h.1) Tryd.underlying24 rfl hi24) hHeld ?_
                      show wpAnyH _ _ _ _ _ _ _ (Act.put _ (some 89) _) _
                      simp only [Act.put, List.setIfInBounds_toArray, List.set_cons_zero, List.set_cons_succ]
                      refine wpAnyH_take (i := 1) (v := .slice (some ⟨gP, oP, none⟩) n1 c1) rfl (by kernel_rfl) (by kernel_rfl) (by kernel_rfl) (fun _ _ _ h => h) (Or.inl ⟨by rfl, fun w _ => by rfl⟩) hHeld ?_
                      show wpAnyH _ _ _ _ _ _ _ (Act.put _ (some 90) _) _
                      simp only [Act.put, List.setIfInBounds_toArray, List.set_cons_zero, List.set_cons_succ]
                      refine wpAnyH_take (i := 2) (v := .int .i64 (k : Int)) rfl (by kernel_rfl) (by kernel_rfl) (by kernel_rfl) (fun _ _ _ h => h) (Or.inl ⟨by rfl, fun w _ => by rfl⟩) hHeld ?_
                      show wpAnyH _ _ _ _ _ _ _ (Act.put _ (some 91) _) _
                      simp only [Act.put, List.setIfInBounds_toArray, List.set_cons_zero, List.set_cons_succ]
                      refine wpAnyH_take (i := 3) (v := .pointer (some ⟨gP, oP + k, none⟩)) rfl (by kernel_rfl) (by kernel_rfl) (by kernel_rfl) (fun _ _ _ h => h) (Or.inl ⟨by rfl, by intro w' h; go_simp⟩) hHeld ?_
                      show wpAnyH _ _ _ _ _ _ _ (Act.put _ (some 92) _) _
                      simp only [Act.put, List.setIfInBounds_toArray, List.set_cons_zero, List.set_cons_succ]
                      refine wpAnyH_take (i := 4) (v := .slice Ai np ci) rfl (by kernel_rfl) (by kernel_rfl) (by kernel_rfl) (fun _ _ _ h => h) (Or.inl ⟨by rfl, by intro w' h; have hq := h.2; go_simp⟩) hHeld ?_
                      show wpAnyH _ _ _ _ _ _ _ (Act.put _ (some 93) _) _
                      simp only [Act.put, List.setIfInBounds_toArray, List.set_cons_zero, List.set_cons_succ]
                      refine wpAnyH_ready (rs := [5]) (by kernel_rfl) (by simp) ?_
                      refine AllReadyH.cons rfl (fun K hK => ?_) AllReadyH.nil
                      refine step_call rfl 21 #[.tmp 5, .tmp 89, .tmp 93] #[49, 25, 22] rfl #[.pointer (some ⟨W.heap.size, 0, none⟩), .agg (w8 d).toArray, .slice Ai np ci] (by simp [Act.eval]) (by go_simp) ((by have := note_again (x := p) LX0.out BX0.out.size H32.out HDB.out (HSRC.out X0 W.heap.size BX0.out (Nat.le_refl _)) HNP.out HNP5.out jj HJK.out.1 (HJK.out.2.trans HKD.out.symm); rw [HXJ.out] at this; rw [decide_eq_false (fun h => h HXY.out)] at this; exact this)) ?_
                      rintro e X1 ⟨rfl, ⟨b2, hL2⟩, hKept⟩
                      have BX1 : Hid (Below W.heap.size W X1) := Lib.hid ((by first | exact BX0.out.trans (hB.mono BX0.out.size) | exact BX0.out.trans hKept.below))
                      have DX1 : Hid (Blk X1 gd 24 (w8 d)) := Lib.hid ((by first | exact DX0.out.below hB DX0.out.lt | exact hKept.rows _ _ _ (by decide) DX0.out))
                      have CX1 : Hid (X1.cell? ⟨gP, oP + k, none⟩ = some (.slice Ai np ci)) := Lib.hid (HCELL.out _ BX1.out)
                      have PX1 : Hid (X1.ownsRow W.heap.size 52 4 (.slice ksA j ksc) j (kcells (Ks))) := Lib.hid ((by first | exact row_below PX0.out hB | exact hKept.row (by decide) PX0.out))
                      have SX1 : Hid (X1.ownsRow W.heap.size 9 1 (.slice (some ⟨gs, 0, none⟩) j c7) j (tcells (Xs.set jj p))) := Lib.hid ((by first | exact row_below SX0.out hB | exact hKept.row (by decide) SX0.out))
                      have LX1 : Hid (LogSt X1 W.heap.size W.heap.size b2 false (Ks) (Xs.set jj p)) := Lib.hid (hL2)
                      clear BX0 DX0 CX0 PX0 SX0 hKept hL2
                      refine ⟨_, rfl, hK.out _ _ (⟨DX1.out, CX1.out⟩) (fun hHeld => ?_)⟩
                      clear hK K
                      show wpAnyH _ _ _ _ _ _ _ (Act.put _ (some 94) _) _
                      simp only [Act.put, List.setIfInBounds_toArray, List.set_cons_zero, List.set_cons_succ]
                      refine wpAnyH_done (by kernel_rfl) ?_ _
                      clear hHeld hi24
                      go_wp2_with fail
                      refine (met_any W.heap.size (.map b2) false X1 (Lib.hid LX1.out.blk)).mono ?_
                      rintro e w10 ⟨rfl, rfl⟩
                      go_wp2_with fail
                      refine (many_st LX1.out j HNK.out).mono ?_
                      rintro e w10 ⟨rfl, rfl⟩
                      go_wp2_with fail
                      exact ⟨⟨k + 1, b2, false, Ks, Xs.set jj p, rfl, rfl, by omega, by omega, by rw [HNK.out]; exact HMK.out, LX1, by rw [HNK.out]; exact PX1, by rw [HNK.out]; exact SX1, BX1⟩, by show n0 - (k + 1) < n0 - k; omega⟩
                    · obtain ⟨t1, ht1⟩ : ∃ t, txt (ints xj) = t := ⟨_, rfl⟩
                      have hne : ¬ t1.toList = (txt (ints p)).toList := txt_ne _ _ (fun h => hxy (tx_inj xj p HXS.out H256.out (by rw [ht1]; exact h)))
                      have hnb : (t1.toList == (txt (ints p)).toList) = false := by simpa using hne
                      have hnb2 : (t1 == txt (ints p)) = false := by rw [beq_toListBytes]; exact hnb
                      have hcl2 : w4.cell? ⟨gs, jj, none⟩ = some (.string t1) := by rw [← ht1]; exact HCL.out
                      have HXY := Lib.hid hxy
                      clear hcl HCL ht1 hxy
                      go_quiet (fail)
                      go_upto_region 21 with fail
                      generalize hw5 : (w4.setCell ⟨gs, jj, none⟩ (.string (txt (ints p)))).drewN _ = w5
                      have hBq : Below (w4.setCell ⟨gs, jj, none⟩ (.string (txt (ints p)))).heap.size (w4.setCell ⟨gs, jj, none⟩ (.string (txt (ints p)))) w5 := by rw [← hw5]; exact below_drewN (Below.refl _ _) _
                      have B6 : Hid (Below W.heap.size W w5) := Lib.hid (B5.out.trans (hBq.mono B5.out.size))
                      have L6 := Lib.hid (L5.out.below_ hBq)
                      have P6 := Lib.hid (row_below P5.out hBq)
                      have S6 := Lib.hid (row_below S5.out hBq)
                      have D6 := Lib.hid (D5.out.below hBq D5.out.lt)
                      clear hw5 hBq B5 L5 P5 S5 D5 hst4 hst9 hset hcc hgs hfl
                      have hi24 : (Tryd.prog.info? 24).map (·.size) = some (w8 d).length := by rw [w8_length, H32.out]; exact info24s
                      have C6 : Hid (w5.cell? ⟨gP, oP + k, none⟩ = some (.slice Ai np ci)) := Lib.hid (HCELL.out _ B6.out)
                      have hBz : Below w5.heap.size w5 w5.drew := below_drewN (Below.refl _ _) 1
                      have BX0 : Hid (Below W.heap.size W w5.drew) := Lib.hid ((by first | exact B6.out.trans (hBz.mono B6.out.size) | exact B6.out.trans hKept.below))
                      have LX0 : Hid (LogSt w5.drew W.heap.size W.heap.size b false (Ks) (Xs)) := Lib.hid (L6.out.below_ hBz)
                      have DX0 : Hid (Blk w5.drew gd 24 (w8 d)) := Lib.hid ((by first | exact D6.out.below hBz D6.out.lt | exact hKept.rows _ _ _ (by decide) D6.out))
                      have CX0 : Hid (w5.drew.cell? ⟨gP, oP + k, none⟩ = some (.slice Ai np ci)) := Lib.hid (HCELL.out _ BX0.out)
                      have PX0 : Hid (w5.drew.ownsRow W.heap.size 52 4 (.slice ksA j ksc) j (kcells (Ks))) := Lib.hid ((by first | exact row_below P6.out hBz | exact hKept.row (by decide) P6.out))
                      have SX0 : Hid (w5.drew.ownsRow W.heap.size 9 1 (.slice (some ⟨gs, 0, none⟩) j c7) j (tcells (Xs.set jj p))) := Lib.hid ((by first | exact row_below S6.out hBz | exact hKept.row (by decide) S6.out))
                      clear hBz
                      refine wp_region_held_drew (S := fun w' => Blk w' gd 24 (w8 d) ∧ w'.cell? ⟨gP, oP + k, none⟩ = some (.slice Ai np ci)) (by kernel_rfl) (⟨DX0.out, CX0.out⟩) (fun hHeld => ?_)
                      generalize w5.drew = X0 at hHeld BX0 LX0 DX0 CX0 PX0 SX0 ⊢
                      refine wpAnyH_take (i := 0) (v := .agg (w8 d).toArray) rfl (by kernel_rfl) (by kernel_rfl) (by kernel_rfl) (fun _ _ _ h => h) (yieldsIf_load_mid (by rfl) 24 (.tmp 10) rfl gd 0 rfl (w8 d) _ (fun w h => Blk.all h.1) Tryd.underlying24 rfl hi24) hHeld ?_
                      show wpAnyH _ _ _ _ _ _ _ (Act.put _ (some 89) _) _
                      simp only [Act.put, List.setIfInBounds_toArray, List.set_cons_zero, List.set_cons_succ]
                      refine wpAnyH_take (i := 1) (v := .slice (some ⟨gP, oP, none⟩) n1 c1) rfl (by kernel_rfl) (by kernel_rfl) (by kernel_rfl) (fun _ _ _ h => h) (Or.inl ⟨by rfl, fun w _ => by rfl⟩) hHeld ?_
                      show wpAnyH _ _ _ _ _ _ _ (Act.put _ (some 90) _) _
                      simp only [Act.put, List.setIfInBounds_toArray, List.set_cons_zero, List.set_cons_succ]
                      refine wpAnyH_take (i := 2) (v := .int .i64 (k : Int)) rfl (by kernel_rfl) (by kernel_rfl) (by kernel_rfl) (fun _ _ _ h => h) (Or.inl ⟨by rfl, fun w _ => by rfl⟩) hHeld ?_
                      show wpAnyH _ _ _ _ _ _ _ (Act.put _ (some 91) _) _
                      simp only [Act.put, List.setIfInBounds_toArray, List.set_cons_zero, List.set_cons_succ]
                      refine wpAnyH_take (i := 3) (v := .pointer (some ⟨gP, oP + k, none⟩)) rfl (by kernel_rfl) (by kernel_rfl) (by kernel_rfl) (fun _ _ _ h => h) (Or.inl ⟨by rfl, by intro w' h; go_simp⟩) hHeld ?_
                      show wpAnyH _ _ _ _ _ _ _ (Act.put _ (some 92) _) _
                      simp only [Act.put, List.setIfInBounds_toArray, List.set_cons_zero, List.set_cons_succ]
                      refine wpAnyH_take (i := 4) (v := .slice Ai np ci) rfl (by kernel_rfl) (by kernel_rfl) (by kernel_rfl) (fun _ _ _ h => h) (Or.inl ⟨by rfl, by intro w' h; have hq := h.2; go_simp⟩) hHeld ?_
                      show wpAnyH _ _ _ _ _ _ _ (Act.put _ (some 93) _) _
                      simp only [Act.put, List.setIfInBounds_toArray, List.set_cons_zero, List.set_cons_succ]
                      refine wpAnyH_ready (rs := [5]) (by kernel_rfl) (by simp) ?_
                      refine AllReadyH.cons rfl (fun K hK => ?_) AllReadyH.nil
                      refine step_call rfl 21 #[.tmp 5, .tmp 89, .tmp 93] #[49, 25, 22] rfl #[.pointer (some ⟨W.heap.size, 0, none⟩), .agg (w8 d).toArray, .slice Ai np ci] (by simp [Act.eval]) (by go_simp) ((by have := note_again (x := p) LX0.out BX0.out.size H32.out HDB.out (HSRC.out X0 W.heap.size BX0.out (Nat.le_refl _)) HNP.out HNP5.out jj HJK.out.1 (HJK.out.2.trans HKD.out.symm); rw [HXJ.out] at this; rw [decide_eq_true HXY.out] at this; exact this)) ?_
                      rintro e X1 ⟨rfl, ⟨b2, hL2⟩, hKept⟩
                      have BX1 : Hid (Below W.heap.size W X1) := Lib.hid ((by first | exact BX0.out.trans (hB.mono BX0.out.size) | exact BX0.out.trans hKept.below))
                      have DX1 : Hid (Blk X1 gd 24 (w8 d)) := Lib.hid ((by first | exact DX0.out.below hB DX0.out.lt | exact hKept.rows _ _ _ (by decide) DX0.out))
                      have CX1 : Hid (X1.cell? ⟨gP, oP + k, none⟩ = some (.slice Ai np ci)) := Lib.hid (HCELL.out _ BX1.out)
                      have PX1 : Hid (X1.ownsRow W.heap.size 52 4 (.slice ksA j ksc) j (kcells (Ks))) := Lib.hid ((by first | exact row_below PX0.out hB | exact hKept.row (by decide) PX0.out))
                      have SX1 : Hid (X1.ownsRow W.heap.size 9 1 (.slice (some ⟨gs, 0, none⟩) j c7) j (tcells (Xs.set jj p))) := Lib.hid ((by first | exact row_below SX0.out hB | exact hKept.row (by decide) SX0.out))
                      have LX1 : Hid (LogSt X1 W.heap.size W.heap.size b2 true (Ks) (Xs.set jj p)) := Lib.hid (hL2)
                      clear BX0 DX0 CX0 PX0 SX0 hKept hL2
                      refine ⟨_, rfl, hK.out _ _ (⟨DX1.out, CX1.out⟩) (fun hHeld => ?_)⟩
                      clear hK K
                      show wpAnyH _ _ _ _ _ _ _ (Act.put _ (some 94) _) _
                      simp only [Act.put, List.setIfInBounds_toArray, List.set_cons_zero, List.set_cons_succ]
                      refine wpAnyH_done (by kernel_rfl) ?_ _
                      clear hHeld hi24
                      go_wp2_with fail
                      refine (met_any W.heap.size (.map b2) true X1 (Lib.hid LX1.out.blk)).mono ?_
                      rintro e w10 ⟨rfl, rfl⟩
                      go_wp2_with fail
                      refine (many_st LX1.out j HNK.out).mono ?_
                      rintro e w10 ⟨rfl, rfl⟩
                      go_wp2_with fail
                      exact ⟨⟨k + 1, b2, true, Ks, Xs.set jj p, rfl, rfl, by omega, by omega, by rw [HNK.out]; exact HMK.out, LX1, by rw [HNK.out]; exact PX1, by rw [HNK.out]; exact SX1, BX1⟩, by show n0 - (k + 1) < n0 - k; omega⟩
    · have kn : ¬ ((k : Int) < (n0 : Int)) := by omega
      clear HL HK HS
      go_wp2_with fail
      refine (note_nil _ _ _ _ rfl).mono ?_
      rintro e Z1 ⟨rfl, hB⟩
      have F1 := Lib.hid (HB.out.trans (hB.mono HB.out.size))
      clear hB
      go_wp2_with fail
      refine (awake_any Z1 (Lib.hid (Tab.keep_ HT.out F1.out))).mono ?_
      rintro e Z2 ⟨rfl, hB⟩
      have F2 := Lib.hid (F1.out.trans (hB.mono F1.out.size))
      clear hB F1
      go_wp2_with fail
      refine (met_nil _).mono ?_
      rintro e Z3 ⟨rfl, rfl⟩
      go_wp2_with fail
      refine (many_nil _).mono ?_
      rintro e Z3 ⟨rfl, rfl⟩
      go_wp2
      go_ret
      exact ⟨rfl, F2.out⟩
end Go.Proofs.YtcpjfdaacnkcnaaDoor
