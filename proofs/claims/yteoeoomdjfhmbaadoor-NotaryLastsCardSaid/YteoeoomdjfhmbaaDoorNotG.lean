/-
  tollhouselaw10.NotaryLasts: the walk.
-/
import Derived.Test.YteoeoomdjfhmbaaDoorNotF
import Derived.Deep.OwnRows
namespace Go.Proofs.YteoeoomdjfhmbaaDoor.notaryLasts
open Go.RowKit
set_option linter.unusedVariables false

def Ok (w : World) (e : Ending) (w' : World) : Prop := e = .returned (.bool true) ∧ Below w.heap.size w w'

set_option maxRecDepth 100000 in
set_option maxHeartbeats 4000000 in
theorem way_dark (sa : Option Addr) (sl sc : Nat) (ta : Option Addr) (tl tc : Nat) (la : Option Addr) (ll lc : Nat) (w : World) (HT : Hid (Tab w)) (hl : 20 < ll) :
    Calls Tryd.prog 4 #[.slice sa sl sc, .slice ta tl tc, .slice la ll lc] w (Ok w) := by
  go_enter Tryd.func4, Tryd.ntmps4
  go_wp2_with fail
  refine (awake_any w HT).mono ?_
  rintro e Y ⟨rfl, hB⟩
  have B1 := Lib.hid hB
  clear hB
  go_wp2
  go_ret
  exact ⟨rfl, B1.out⟩

set_option maxRecDepth 100000 in
set_option maxHeartbeats 16000000 in
theorem way_light (sa : Option Addr) (sl sc : Nat) (ta : Option Addr) (tl tc : Nat) (la : Option Addr) (ll lc : Nat) (ss : List (List Nat)) (st : List Nat) (cs : List Cnd) (w : World) (HT : Hid (Tab w)) (hl : ll ≤ 20) (HS : Hid (SecRow w sa ss)) (HP : Hid (StpRow w ta st)) (HC : Hid (CndRow w la cs))
    (hsl : ss.length = sl) (htl : st.length = tl) (hcl : cs.length = ll) (hsm : sl ≤ maxLen) (htm : tl ≤ maxLen) :
    Calls Tryd.prog 4 #[.slice sa sl sc, .slice ta tl tc, .slice la ll lc] w (Ok w) := by
  have HSL := Lib.hid hsl
  have HTL := Lib.hid htl
  have HCL := Lib.hid hcl
  have hmk := run_make_row' (P := Tryd.prog) 63 65 (.int .i64 0) 8 Tryd.underlying63 (by kernel_rfl) rfl .i64 .i64 ll (by omega) (by omega)
  go_enter Tryd.func4, Tryd.ntmps4
  go_wp2_with fail
  refine (notary_new w).mono ?_
  rintro e V ⟨g, b, rfl, hN, hM, hB, hgb1, hgb2⟩
  have BV := Lib.hid hB
  have NV := Lib.hid hN
  have MV := Lib.hid hM
  have HGB := Lib.hid (⟨hgb1, hgb2⟩ : w.heap.size ≤ b ∧ w.heap.size ≤ g)
  have HNE : Hid (g ≠ b) := Lib.hid (by
    rintro rfl
    obtain ⟨es, clock, hh, _⟩ := hM.ex
    rw [hN] at hh
    cases hh)
  clear hN hM hB hgb1 hgb2
  go_upto_region 6 with fail
  have hB1 : Below V.heap.size V (V.alloc (.cells (madeCells #[.int .i64 0] ll) 65)) := (Below.refl _ _).alloc (Nat.le_refl _) _
  have BV1 := Lib.hid (BV.out.trans (hB1.mono BV.out.size))
  have NV1 := Lib.hid (NV.out.below hB1 NV.out.lt)
  have MV1 := Lib.hid (MV.out.below hB1)
  have LV1 : Hid (Blk (V.alloc (.cells (madeCells #[.int .i64 0] ll) 65)) V.heap.size 65 (i64s (List.replicate ll 0))) := Lib.hid (by
    have h := heap_alloc_last V (.cells (madeCells #[.int .i64 0] ll) 65)
    have e : (i64s (List.replicate ll 0)).toArray = madeCells #[.int .i64 0] ll := by
      apply Array.ext'
      rw [toList_madeCells_one]
      simp [i64s]
    unfold Blk
    rw [e]
    exact h)
  have HLR : Hid (g < V.heap.size ∧ b < V.heap.size ∧ w.heap.size ≤ V.heap.size) := Lib.hid ⟨NV.out.lt, MV.out.lt, BV.out.size⟩
  clear BV NV MV hB1 hmk
  generalize V.alloc (.cells (madeCells #[.int .i64 0] ll) 65) = V1 at BV1 NV1 MV1 LV1 ⊢
  generalize V.heap.size = lr at LV1 HLR ⊢
  go_wp2_with fail
  refine (twin_any g b ([].map tv) V1 NV1 MV1).mono ?_
  rintro e V2 ⟨gt, bt, rfl, hW, hX, hB, hbt, hgt⟩
  have BV2 := Lib.hid (BV1.out.trans (hB.mono BV1.out.size))
  have NV2 := Lib.hid (NV1.out.below hB NV1.out.lt)
  have MV2 := Lib.hid (MV1.out.below hB)
  have LV2 := Lib.hid (LV1.out.below hB LV1.out.lt)
  have WV2 := Lib.hid hW
  have XV2 := Lib.hid hX
  have HTW : Hid (lr < gt ∧ lr < bt ∧ b < bt ∧ b < gt) := Lib.hid (by
    have h1 := LV1.out.lt
    have h2 := HLR.out
    exact ⟨by omega, by omega, by omega, by omega⟩)
  have GV2 : Hid (Goods [] 0 cs (List.replicate ll 0)) := Lib.hid ⟨by simp [hcl], fun j hj => by
    have : (List.replicate ll (0 : Int)).getD j 0 = 0 := by simp [List.getD, List.getElem?_replicate]; split <;> rfl
    rw [this]; exact Good.zero _ _ _⟩
  have OV2 : Hid (Okay []) := Lib.hid ⟨by simp, by simp⟩
  clear hW hX hB hbt hgt BV1 NV1 MV1 LV1 hsl htl hcl
  go_wp2
  go_loopw [8, 33] (fun H i wd => ∃ (k h : Nat) (T : List (List Nat × List Nat × Int)) (vs : List Int), k ≤ tl ∧ i = .int .i64 k ∧ H = .int .u64 h ∧ h ≤ 2 * k ∧ k ≤ 40 ∧ Hid (Below w.heap.size w wd) ∧ Hid (Blk wd g 75 [.map (some b)]) ∧ Hid (NMap wd b (T.map tv)) ∧ Hid (Blk wd lr 65 (i64s vs)) ∧ Hid (Blk wd gt 75 [.map (some bt)]) ∧ Hid (NMap wd bt ([].map tv)) ∧ Hid (Goods T h cs vs) ∧ Hid (Okay T)) (fun _ i _ => tl - (intOf i).toNat)
  case atStart => exact ⟨0, 0, [], List.replicate ll 0, Nat.zero_le _, rfl, rfl, by omega, by omega, BV2, NV2, MV2, LV2, WV2, XV2, GV2, OV2⟩
  case round =>
    clear BV2 NV2 MV2 LV2 WV2 XV2 GV2 OV2
    obtain ⟨k, h, T, vs, hk, rfl, rfl, hh, hk40, B0, N0, M0, L0, W0, X0, G0, O0⟩ := hrel
    have Bwr := B0
    have Wwr := W0
    have Xwr := X0
    clear B0 W0 X0
    by_cases hlt : k < tl
    · have hkt : k < st.length := by rw [HTL.out]; exact hlt
      obtain ⟨bt9, ot9, ha, hcell⟩ : ∃ b o, ta = some ⟨b, o, none⟩ ∧ wr.cell? ⟨b, o + k, none⟩ = some (.int .u8 ((st.getD k 0 : Nat) : Int)) := by
        rcases (HP.out.below Bwr.out).at_ with h1 | ⟨b, o, ha, hb, hx⟩
        · rw [h1] at hkt; simp at hkt
        · exact ⟨b, o, ha, hx k hkt⟩
      subst ha
      have hx8 := HP.out.each k hkt
      obtain ⟨x, hx⟩ : ∃ x, st.getD k 0 = x := ⟨_, rfl⟩
      rw [hx] at hcell hx8
      by_cases h40 : k = 40
      · subst h40
        clear N0 M0 L0 G0 O0 hx
        go_wp2_with fail
        rw [zz_lit]
        refine (when_of (.pointer none) z32 z32 0 false wr rfl rfl (Lib.hid (Finds.nil wr z32))).mono ?_
        rintro e Z1 ⟨rfl, hB⟩
        have BZ1 := Lib.hid (Bwr.out.trans (hB.mono Bwr.out.size))
        have WZ1 := Lib.hid (Wwr.out.below hB Wwr.out.lt)
        have XZ1 := Lib.hid (Xwr.out.below hB)
        clear Bwr Wwr Xwr hB
        go_wp2_with fail
        rw [zz_lit]
        refine (secret_of (.pointer none) z32 z32 0 false Z1 rfl rfl (Lib.hid (Finds.nil Z1 z32))).mono ?_
        rintro e Z2 ⟨rfl, hB⟩
        have BZ2 := Lib.hid (BZ1.out.trans (hB.mono BZ1.out.size))
        have WZ2 := Lib.hid (WZ1.out.below hB WZ1.out.lt)
        have XZ2 := Lib.hid (XZ1.out.below hB)
        clear BZ1 WZ1 XZ1 hB
        have hz46 : (Tryd.prog.info? 46).map (·.size) = some (w8 z32).toArray.size := info46
        have hzz : (#[.int .u8 0, .int .u8 0, .int .u8 0, .int .u8 0, .int .u8 0, .int .u8 0, .int .u8 0, .int .u8 0, .int .u8 0, .int .u8 0, .int .u8 0, .int .u8 0, .int .u8 0, .int .u8 0, .int .u8 0, .int .u8 0, .int .u8 0, .int .u8 0, .int .u8 0, .int .u8 0, .int .u8 0, .int .u8 0, .int .u8 0, .int .u8 0, .int .u8 0, .int .u8 0, .int .u8 0, .int .u8 0, .int .u8 0, .int .u8 0, .int .u8 0, .int .u8 0] : Array Value).size = (w8 z32).toArray.size := rfl
        have hzo := all_oneCell_toArray (w8_one z32)
        have HLA := heap_alloc_last Z2 (.cells #[.int .u8 0, .int .u8 0, .int .u8 0, .int .u8 0, .int .u8 0, .int .u8 0, .int .u8 0, .int .u8 0, .int .u8 0, .int .u8 0, .int .u8 0, .int .u8 0, .int .u8 0, .int .u8 0, .int .u8 0, .int .u8 0, .int .u8 0, .int .u8 0, .int .u8 0, .int .u8 0, .int .u8 0, .int .u8 0, .int .u8 0, .int .u8 0, .int .u8 0, .int .u8 0, .int .u8 0, .int .u8 0, .int .u8 0, .int .u8 0, .int .u8 0, .int .u8 0] 46)
        go_upto_region 26 with (first | (refine wpList_store_row rfl 46 (.tmp 19) (.tmp 104) rfl Z2.heap.size (w8 z32).toArray rfl rfl 46 _ HLA hz46 hzz hzo ?_; rw [World.setRow_alloc_new]))
        have hB : Below Z2.heap.size Z2 (Z2.alloc (.cells (w8 z32).toArray 46)) := (Below.refl _ _).alloc (Nat.le_refl _) _
        have BZ3 := Lib.hid (BZ2.out.trans (hB.mono BZ2.out.size))
        have WZ3 := Lib.hid (WZ2.out.below hB WZ2.out.lt)
        have XZ3 := Lib.hid (XZ2.out.below hB)
        clear HLA hB BZ2 WZ2 XZ2
        generalize Z2.alloc (.cells (w8 z32).toArray 46) = Z3 at BZ3 WZ3 XZ3 ⊢
        generalize Z2.heap.size = z9
        go_wp2_with fail
        refine (awake_any Z3 (Lib.hid (HT.out.below BZ3.out HT.out.lt))).mono ?_
        rintro e Z4 ⟨rfl, hB⟩
        have BZ4 := Lib.hid (BZ3.out.trans (hB.mono BZ3.out.size))
        have WZ4 := Lib.hid (WZ3.out.below hB WZ3.out.lt)
        have XZ4 := Lib.hid (XZ3.out.below hB)
        clear BZ3 WZ3 XZ3 hB
        go_wp2_with fail
        refine (many_any gt bt ([].map tv) Z4 WZ4 XZ4).mono ?_
        rintro e Z5 ⟨rfl, rfl⟩
        rw [show (([].map tv).length : Int) = 0 from rfl]
        go_wp2_with fail
        rw [zz_lit]
        refine (tell_nil _ _ Z4 ⟨z32, rfl⟩).mono ?_
        rintro e Z6 ⟨rfl, hB⟩
        have BZ6 := Lib.hid (BZ4.out.trans (hB.mono BZ4.out.size))
        have WZ6 := Lib.hid (WZ4.out.below hB WZ4.out.lt)
        have XZ6 := Lib.hid (XZ4.out.below hB)
        clear BZ4 WZ4 XZ4 hB
        go_wp2_with fail
        refine (many_nil Z6).mono ?_
        rintro e Z7 ⟨rfl, rfl⟩
        go_wp2_with fail
        refine (twin_nil Z6).mono ?_
        rintro e Z7 ⟨rfl, rfl⟩
        go_wp2_with fail
        rw [show (Value.agg #[.int .u64 0, .int .i64 0, .int .u64 0, .int .u8 0, .int .u8 0, .int .u8 0, .int .u8 0, .int .u8 0, .int .u8 0, .int .u8 0, .int .u8 0, .int .u8 0, .int .u8 0, .int .u8 0, .int .u8 0, .int .u8 0, .int .u8 0, .int .u8 0, .int .u8 0, .int .u8 0, .int .u8 0, .int .u8 0, .int .u8 0, .int .u8 0, .int .u8 0, .int .u8 0, .int .u8 0, .int .u8 0, .int .u8 0, .int .u8 0, .int .u8 0, .int .u8 0, .int .u8 0, .int .u8 0, .int .u8 0, .int .u64 3]) = .agg (ccells 0 0 0 z32 3).toArray from rfl]
        refine (of_of (.pointer none) z32 z32 0 false 0 0 0 3 4 Z6 rfl rfl (Lib.hid (Finds.nil Z6 z32))).mono ?_
        rintro e Z7 ⟨rfl, hB⟩
        have BZ7 := Lib.hid (BZ6.out.trans (hB.mono BZ6.out.size))
        have WZ7 := Lib.hid (WZ6.out.below hB WZ6.out.lt)
        have XZ7 := Lib.hid (XZ6.out.below hB)
        clear BZ6 WZ6 XZ6 hB
        rw [show verd false 0 3 4 = 2 from rfl]
        go_wp2_with fail
        refine (hashes_nil Z7).mono ?_
        rintro e Z8 ⟨rfl, rfl⟩
        go_wp2
        go_ret
        exact ⟨rfl, BZ7.out⟩
      · have hk41 : k < 40 := by omega
        clear h40 hx
        have HKT := Lib.hid hlt
        obtain ⟨h2, hh2⟩ : ∃ h2 : Nat, h + x % 3 = h2 := ⟨_, rfl⟩
        have hsum : (h : Int) + (x : Int) % 3 = (h2 : Int) := by omega
        have hh3 : h ≤ h2 ∧ h2 ≤ 2 * (k + 1) := by omega
        have G1 : Hid (Goods T h2 cs vs) := Lib.hid (G0.out.later (by have := hh3.1; omega))
        clear hh2 G0
        by_cases hA : 128 ≤ x ∧ 0 < sl
        · obtain ⟨hA1, hA2⟩ := hA
          obtain ⟨y, hy⟩ : ∃ y, x % sl = y := ⟨_, rfl⟩
          have hyl : y < sl := by rw [← hy]; exact Nat.mod_lt _ hA2
          have hxy : (x : Int) % (sl : Int) = (y : Int) := by rw [← hy]; simp
          have hys : y < ss.length := by rw [HSL.out]; exact hyl
          obtain ⟨bs, os, ha, hrgs⟩ : ∃ b o, sa = some ⟨b, o, none⟩ ∧ wr.rangeAt b (o + y * 32) (w8 (ss.getD y z32)) := by
            rcases (HS.out.below Bwr.out).at_ with h1 | ⟨b, o, ha, hb, hx⟩
            · rw [h1] at hys; simp at hys
            · exact ⟨b, o, ha, hx y hys⟩
          subst ha
          obtain ⟨s1, s2⟩ := HS.out.each y hys
          obtain ⟨s, hs⟩ : ∃ s, ss.getD y z32 = s := ⟨_, rfl⟩
          rw [hs] at hrgs s1 s2
          have i35 : (Tryd.prog.info? 35).map (·.size) = some (w8 s).length := by rw [w8_length, s1]; exact info35
          clear hs hys hy
          have y0 : (0 : Int) ≤ (y : Int) := Int.natCast_nonneg _
          have y1 : (y : Int) < (sl : Int) := by omega
          go_upto_region 13 with fail
          go_wp2_with (first | (refine wpList_load_mid rfl 35 (.tmp 59) rfl bs (os + y * 32) rfl (w8 s) _ hrgs Tryd.underlying35 rfl i35 ?_))
          try rw [hsum]
          refine (tell_any g b T s h2 wr (Lib.hid (HT.out.below Bwr.out HT.out.lt)) N0 M0 O0.out HNE.out s1 s2).mono ?_
          rintro e Y1 ⟨rfl, hN, hM, hG⟩
          have BY1 := Lib.hid (Bwr.out.grown hG Bwr.out.size (fun k hk => by injection hk with hk; subst hk; exact HGB.out.1))
          have NY1 := Lib.hid hN
          have MY1 := Lib.hid hM
          have LY1 := Lib.hid (L0.out.grown hG (fun e => by have := HLR.out; injection e with e; omega))
          have WY1 := Lib.hid (Wwr.out.grown hG (fun e => by have := HTW.out; injection e with e; omega))
          have XY1 := Lib.hid (Xwr.out.far hG (fun e => by have := HTW.out; injection e with e; omega))
          have GY1 := Lib.hid (G1.out.tell s)
          have OY1 := Lib.hid (tellT_ok (s := s) (ht := (h2 : Int)) O0.out s1)
          clear hN hM hG Bwr N0 M0 L0 Wwr Xwr G1 O0 hrgs
          generalize tellT T s (h2 : Int) = T2 at MY1 GY1 OY1 ⊢
          generalize (if isIn T (hsh s) = true then (7 : Int) else 0) = r62
          go_upto_region 14 with fail
          clear hcell hsum
          go_wp2
          go_loopw [65] (fun i wd => ∃ (j : Nat) (us : List Int), j ≤ ll ∧ i = .int .i64 j ∧ Hid (Below w.heap.size w wd) ∧ Hid (Blk wd g 75 [.map (some b)]) ∧ Hid (NMap wd b (T2.map tv)) ∧ Hid (Blk wd lr 65 (i64s us)) ∧ Hid (Blk wd gt 75 [.map (some bt)]) ∧ Hid (NMap wd bt ([].map tv)) ∧ Hid (Goods T2 h2 cs us)) (fun i _ => ll - (intOf i).toNat)
          case atStart => exact ⟨0, vs, Nat.zero_le _, rfl, BY1, NY1, MY1, LY1, WY1, XY1, GY1⟩
          case round =>
            clear BY1 NY1 MY1 LY1 WY1 XY1 GY1
            obtain ⟨j, us, hj, rfl, B3, N3, M3, L3, W3, X3, G3⟩ := hrel
            by_cases hjl : j < ll
            · have hjc : j < cs.length := by rw [HCL.out]; exact hjl
              obtain ⟨bl, ol, ha, hrg⟩ : ∃ b o, la = some ⟨b, o, none⟩ ∧ wr.rangeAt b (o + j * 36) (cs.getD j cnd0).cells := by
                rcases (HC.out.below B3.out).at_ with h1 | ⟨b, o, ha, hb, hx⟩
                · rw [h1] at hjc; simp at hjc
                · exact ⟨b, o, ha, hx j hjc⟩
              subst ha
              obtain ⟨q1, q2⟩ := HC.out.each j hjc
              have HGJ := Lib.hid (G3.out.2 j hjc)
              have HUL : Hid (us.length = ll) := Lib.hid (G3.out.1.trans HCL.out)
              have HGS := Lib.hid (fun v hv => G3.out.set j v hv)
              obtain ⟨c, hc⟩ : ∃ c, cs.getD j cnd0 = c := ⟨_, rfl⟩
              rw [hc] at hrg q1 q2 HGJ HGS
              obtain ⟨id, side, amt, hq, ex⟩ := c
              have hrg' : wr.rangeAt bl (ol + j * 36) (ccells id side amt hq ex) := hrg
              have q1' : hq.length = 32 := q1
              have q2' : ∀ x ∈ hq, x < 256 := q2
              have hcl := ccells_length id side amt hq ex q1'
              have hco := ccells_one id side amt hq ex
              have i56 : (Tryd.prog.info? 56).map (·.size) = some (ccells id side amt hq ex).length := by rw [hcl]; exact info56
              have hz56 : (Tryd.prog.info? 56).map (·.size) = some (ccells id side amt hq ex).toArray.size := by rw [List.size_toArray, hcl]; exact info56
              have hzz : (#[.int .u64 0, .int .i64 0, .int .u64 0, .int .u8 0, .int .u8 0, .int .u8 0, .int .u8 0, .int .u8 0, .int .u8 0, .int .u8 0, .int .u8 0, .int .u8 0, .int .u8 0, .int .u8 0, .int .u8 0, .int .u8 0, .int .u8 0, .int .u8 0, .int .u8 0, .int .u8 0, .int .u8 0, .int .u8 0, .int .u8 0, .int .u8 0, .int .u8 0, .int .u8 0, .int .u8 0, .int .u8 0, .int .u8 0, .int .u8 0, .int .u8 0, .int .u8 0, .int .u8 0, .int .u8 0, .int .u8 0, .int .u64 0] : Array Value).size = (ccells id side amt hq ex).toArray.size := by rw [show (ccells id side amt hq ex).toArray.size = 36 by rw [List.size_toArray, hcl]]; rfl
              have HLA := heap_alloc_last wr (.cells #[.int .u64 0, .int .i64 0, .int .u64 0, .int .u8 0, .int .u8 0, .int .u8 0, .int .u8 0, .int .u8 0, .int .u8 0, .int .u8 0, .int .u8 0, .int .u8 0, .int .u8 0, .int .u8 0, .int .u8 0, .int .u8 0, .int .u8 0, .int .u8 0, .int .u8 0, .int .u8 0, .int .u8 0, .int .u8 0, .int .u8 0, .int .u8 0, .int .u8 0, .int .u8 0, .int .u8 0, .int .u8 0, .int .u8 0, .int .u8 0, .int .u8 0, .int .u8 0, .int .u8 0, .int .u8 0, .int .u8 0, .int .u64 0] 56)
              have cl := L3.out.cell j
              rw [i64s_get us j (by rw [HUL.out]; exact hjl)] at cl
              obtain ⟨u, hu⟩ : ∃ u, us.getD j 0 = u := ⟨_, rfl⟩
              rw [hu] at cl HGJ
              have HLJ : Hid ((i64s us)[j]? = some (.int .i64 u)) := Lib.hid (by rw [← hu]; exact i64s_get us j (by rw [HUL.out]; exact hjl))
              have j0 : (0 : Int) ≤ (j : Int) := Int.natCast_nonneg _
              have j1 : (j : Int) < (ll : Int) := by omega
              clear hrg q1 q2 hc hu hjc
              go_upto_region 17 with (first | (refine wpList_load_mid rfl 56 (.tmp 68) rfl bl (ol + j * 36) rfl (ccells id side amt hq ex) _ hrg' Tryd.underlying56 rfl i56 ?_) | (refine wpList_store_row rfl 56 (.tmp 14) (.tmp 69) rfl wr.heap.size (ccells id side amt hq ex).toArray rfl rfl 56 _ HLA hz56 hzz hco ?_; rw [World.setRow_alloc_new]))
              have hB : Below wr.heap.size wr (wr.alloc (.cells (ccells id side amt hq ex).toArray 56)) := (Below.refl _ _).alloc (Nat.le_refl _) _
              have B4 := Lib.hid (B3.out.trans (hB.mono B3.out.size))
              have N4 := Lib.hid (N3.out.below hB N3.out.lt)
              have M4 := Lib.hid (M3.out.below hB)
              have L4 := Lib.hid (L3.out.below hB L3.out.lt)
              have W4 := Lib.hid (W3.out.below hB W3.out.lt)
              have X4 := Lib.hid (X3.out.below hB)
              have C4 : Hid (Blk (wr.alloc (.cells (ccells id side amt hq ex).toArray 56)) wr.heap.size 56 (ccells id side amt hq ex)) := Lib.hid (Blk.new wr 56 _)
              clear B3 N3 M3 L3 W3 X3 HLA hB cl hrg'
              generalize wr.alloc (.cells (ccells id side amt hq ex).toArray 56) = U4 at B4 N4 M4 L4 W4 X4 C4 ⊢
              generalize wr.heap.size = gq at C4 ⊢
              go_wp2_with (first | (refine wpList_load_row rfl 56 (.tmp 14) rfl gq rfl 56 (ccells id side amt hq ex).toArray (0, 0) _ C4.out Tryd.underlying56 rfl hz56 ?_))
              refine (to_any id side amt ex hq U4 q1').mono ?_
              rintro e U5 ⟨rfl, hB⟩
              have B5 := Lib.hid (B4.out.trans (hB.mono B4.out.size))
              have N5 := Lib.hid (N4.out.below hB N4.out.lt)
              have M5 := Lib.hid (M4.out.below hB)
              have L5 := Lib.hid (L4.out.below hB L4.out.lt)
              have W5 := Lib.hid (W4.out.below hB W4.out.lt)
              have X5 := Lib.hid (X4.out.below hB)
              clear B4 N4 M4 L4 W4 X4 C4 hB
              go_wp2_with fail
              refine (of_of (.pointer (some ⟨g, 0, none⟩)) hq (sOf T2 hq) (htOf T2 hq) (isIn T2 hq) id side amt ex h2 U5 q1' (sOf_length T2 hq OY1.out) (Lib.hid (Finds.any hq N5.out M5.out OY1.out q1' q2'))).mono ?_
              rintro e U6 ⟨rfl, hB⟩
              have B6 := Lib.hid (B5.out.trans (hB.mono B5.out.size))
              have N6 := Lib.hid (N5.out.below hB N5.out.lt)
              have M6 := Lib.hid (M5.out.below hB)
              have L6 := Lib.hid (L5.out.below hB L5.out.lt)
              have W6 := Lib.hid (W5.out.below hB W5.out.lt)
              have X6 := Lib.hid (X5.out.below hB)
              have HSM : Hid (u ≠ 0 → verd (isIn T2 hq) (htOf T2 hq) ex h2 = u) := Lib.hid (fun hne => HGJ.out.same hne)
              have HNW := Lib.hid (HGS.out _ (Good.new T2 h2 ⟨id, side, amt, hq, ex⟩))
              clear B5 N5 M5 L5 W5 X5 hB HGJ HGS q2'
              change Hid (Goods T2 h2 cs (us.set j (verd (isIn T2 hq) (htOf T2 hq) ex h2))) at HNW
              obtain ⟨v, hv⟩ : ∃ v, verd (isIn T2 hq) (htOf T2 hq) ex h2 = v := ⟨_, rfl⟩
              rw [hv] at HSM HNW ⊢
              clear hv
              have cl : U6.cell? ⟨lr, j, none⟩ = some (.int .i64 u) := (L6.out.cell j).trans HLJ.out
              have fl := L6.out.frozen j
              have BB : Hid (Below w.heap.size w (U6.setCell ⟨lr, j, none⟩ (.int .i64 v))) := Lib.hid (B6.out.setCell (p := ⟨lr, j, none⟩) HLR.out.2.2 _)
              have hG : U6.grownBy (U6.setCell ⟨lr, j, none⟩ (.int .i64 v)) (some lr) := only_setCell (p := ⟨lr, j, none⟩) (only_refl U6 _) (.inl rfl) _
              have NB := Lib.hid (N6.out.grown hG (fun e => by have := HLR.out; injection e with e; omega))
              have MB := Lib.hid (M6.out.far hG (fun e => by have := HLR.out; injection e with e; omega))
              have WB := Lib.hid (W6.out.grown hG (fun e => by have := HTW.out; injection e with e; omega))
              have XB := Lib.hid (X6.out.far hG (fun e => by have := HTW.out; injection e with e; omega))
              have LB : Hid (Blk (U6.setCell ⟨lr, j, none⟩ (.int .i64 v)) lr 65 (i64s (us.set j v))) := Lib.hid (by have h := L6.out.set_ j (.int .i64 v); rw [i64s_set] at h; exact h)
              clear hG B6 N6 M6 L6 W6 X6 HLJ
              by_cases hu0 : u = 0
              · subst hu0
                clear HSM
                go_wp2
                go_roundw
                case rel => exact ⟨j + 1, us.set j v, by omega, by go_num, BB, NB, MB, LB, WB, XB, HNW⟩
                case measure => simp [intOf]; omega
              · have hvu : v = u := HSM.out hu0
                have hne : ¬ (u = 0) := hu0
                subst hvu
                clear HSM
                go_wp2
                go_roundw
                case rel => exact ⟨j + 1, us.set j v, by omega, by go_num, BB, NB, MB, LB, WB, XB, HNW⟩
                case measure => simp [intOf]; omega
            · go_wp2
              go_roundw
              case rel => exact ⟨k + 1, h2, T2, us, by have := HKT.out; omega, by go_num, rfl, hh3.2, by omega, B3, N3, M3, L3, W3, X3, G3, OY1⟩
              case measure => have := HKT.out; simp [intOf]; omega
        · have hnA : x < 128 ∨ sl = 0 := by omega
          clear hA
          rcases hnA with hA | hA
          · go_upto_region 14 with fail
            try rw [hsum]
            have BY1 := Bwr
            have NY1 := N0
            have MY1 := M0
            have LY1 := L0
            have WY1 := Wwr
            have XY1 := Xwr
            have GY1 := G1
            have OY1 := O0
            clear Bwr N0 M0 L0 Wwr Xwr G1 O0
            generalize T = T2 at MY1 GY1 OY1 ⊢
            generalize wr = Y1 at BY1 NY1 MY1 LY1 WY1 XY1 ⊢
            clear hcell hsum
            go_wp2
            go_loopw [65] (fun i wd => ∃ (j : Nat) (us : List Int), j ≤ ll ∧ i = .int .i64 j ∧ Hid (Below w.heap.size w wd) ∧ Hid (Blk wd g 75 [.map (some b)]) ∧ Hid (NMap wd b (T2.map tv)) ∧ Hid (Blk wd lr 65 (i64s us)) ∧ Hid (Blk wd gt 75 [.map (some bt)]) ∧ Hid (NMap wd bt ([].map tv)) ∧ Hid (Goods T2 h2 cs us)) (fun i _ => ll - (intOf i).toNat)
            case atStart => exact ⟨0, vs, Nat.zero_le _, rfl, BY1, NY1, MY1, LY1, WY1, XY1, GY1⟩
            case round =>
              clear BY1 NY1 MY1 LY1 WY1 XY1 GY1
              obtain ⟨j, us, hj, rfl, B3, N3, M3, L3, W3, X3, G3⟩ := hrel
              by_cases hjl : j < ll
              · have hjc : j < cs.length := by rw [HCL.out]; exact hjl
                obtain ⟨bl, ol, ha, hrg⟩ : ∃ b o, la = some ⟨b, o, none⟩ ∧ wr.rangeAt b (o + j * 36) (cs.getD j cnd0).cells := by
                  rcases (HC.out.below B3.out).at_ with h1 | ⟨b, o, ha, hb, hx⟩
                  · rw [h1] at hjc; simp at hjc
                  · exact ⟨b, o, ha, hx j hjc⟩
                subst ha
                obtain ⟨q1, q2⟩ := HC.out.each j hjc
                have HGJ := Lib.hid (G3.out.2 j hjc)
                have HUL : Hid (us.length = ll) := Lib.hid (G3.out.1.trans HCL.out)
                have HGS := Lib.hid (fun v hv => G3.out.set j v hv)
                obtain ⟨c, hc⟩ : ∃ c, cs.getD j cnd0 = c := ⟨_, rfl⟩
                rw [hc] at hrg q1 q2 HGJ HGS
                obtain ⟨id, side, amt, hq, ex⟩ := c
                have hrg' : wr.rangeAt bl (ol + j * 36) (ccells id side amt hq ex) := hrg
                have q1' : hq.length = 32 := q1
                have q2' : ∀ x ∈ hq, x < 256 := q2
                have hcl := ccells_length id side amt hq ex q1'
                have hco := ccells_one id side amt hq ex
                have i56 : (Tryd.prog.info? 56).map (·.size) = some (ccells id side amt hq ex).length := by rw [hcl]; exact info56
                have hz56 : (Tryd.prog.info? 56).map (·.size) = some (ccells id side amt hq ex).toArray.size := by rw [List.size_toArray, hcl]; exact info56
                have hzz : (#[.int .u64 0, .int .i64 0, .int .u64 0, .int .u8 0, .int .u8 0, .int .u8 0, .int .u8 0, .int .u8 0, .int .u8 0, .int .u8 0, .int .u8 0, .int .u8 0, .int .u8 0, .int .u8 0, .int .u8 0, .int .u8 0, .int .u8 0, .int .u8 0, .int .u8 0, .int .u8 0, .int .u8 0, .int .u8 0, .int .u8 0, .int .u8 0, .int .u8 0, .int .u8 0, .int .u8 0, .int .u8 0, .int .u8 0, .int .u8 0, .int .u8 0, .int .u8 0, .int .u8 0, .int .u8 0, .int .u8 0, .int .u64 0] : Array Value).size = (ccells id side amt hq ex).toArray.size := by rw [show (ccells id side amt hq ex).toArray.size = 36 by rw [List.size_toArray, hcl]]; rfl
                have HLA := heap_alloc_last wr (.cells #[.int .u64 0, .int .i64 0, .int .u64 0, .int .u8 0, .int .u8 0, .int .u8 0, .int .u8 0, .int .u8 0, .int .u8 0, .int .u8 0, .int .u8 0, .int .u8 0, .int .u8 0, .int .u8 0, .int .u8 0, .int .u8 0, .int .u8 0, .int .u8 0, .int .u8 0, .int .u8 0, .int .u8 0, .int .u8 0, .int .u8 0, .int .u8 0, .int .u8 0, .int .u8 0, .int .u8 0, .int .u8 0, .int .u8 0, .int .u8 0, .int .u8 0, .int .u8 0, .int .u8 0, .int .u8 0, .int .u8 0, .int .u64 0] 56)
                have cl := L3.out.cell j
                rw [i64s_get us j (by rw [HUL.out]; exact hjl)] at cl
                obtain ⟨u, hu⟩ : ∃ u, us.getD j 0 = u := ⟨_, rfl⟩
                rw [hu] at cl HGJ
                have HLJ : Hid ((i64s us)[j]? = some (.int .i64 u)) := Lib.hid (by rw [← hu]; exact i64s_get us j (by rw [HUL.out]; exact hjl))
                have j0 : (0 : Int) ≤ (j : Int) := Int.natCast_nonneg _
                have j1 : (j : Int) < (ll : Int) := by omega
                clear hrg q1 q2 hc hu hjc
                go_upto_region 17 with (first | (refine wpList_load_mid rfl 56 (.tmp 68) rfl bl (ol + j * 36) rfl (ccells id side amt hq ex) _ hrg' Tryd.underlying56 rfl i56 ?_) | (refine wpList_store_row rfl 56 (.tmp 14) (.tmp 69) rfl wr.heap.size (ccells id side amt hq ex).toArray rfl rfl 56 _ HLA hz56 hzz hco ?_; rw [World.setRow_alloc_new]))
                have hB : Below wr.heap.size wr (wr.alloc (.cells (ccells id side amt hq ex).toArray 56)) := (Below.refl _ _).alloc (Nat.le_refl _) _
                have B4 := Lib.hid (B3.out.trans (hB.mono B3.out.size))
                have N4 := Lib.hid (N3.out.below hB N3.out.lt)
                have M4 := Lib.hid (M3.out.below hB)
                have L4 := Lib.hid (L3.out.below hB L3.out.lt)
                have W4 := Lib.hid (W3.out.below hB W3.out.lt)
                have X4 := Lib.hid (X3.out.below hB)
                have C4 : Hid (Blk (wr.alloc (.cells (ccells id side amt hq ex).toArray 56)) wr.heap.size 56 (ccells id side amt hq ex)) := Lib.hid (Blk.new wr 56 _)
                clear B3 N3 M3 L3 W3 X3 HLA hB cl hrg'
                generalize wr.alloc (.cells (ccells id side amt hq ex).toArray 56) = U4 at B4 N4 M4 L4 W4 X4 C4 ⊢
                generalize wr.heap.size = gq at C4 ⊢
                go_wp2_with (first | (refine wpList_load_row rfl 56 (.tmp 14) rfl gq rfl 56 (ccells id side amt hq ex).toArray (0, 0) _ C4.out Tryd.underlying56 rfl hz56 ?_))
                refine (to_any id side amt ex hq U4 q1').mono ?_
                rintro e U5 ⟨rfl, hB⟩
                have B5 := Lib.hid (B4.out.trans (hB.mono B4.out.size))
                have N5 := Lib.hid (N4.out.below hB N4.out.lt)
                have M5 := Lib.hid (M4.out.below hB)
                have L5 := Lib.hid (L4.out.below hB L4.out.lt)
                have W5 := Lib.hid (W4.out.below hB W4.out.lt)
                have X5 := Lib.hid (X4.out.below hB)
                clear B4 N4 M4 L4 W4 X4 C4 hB
                go_wp2_with fail
                refine (of_of (.pointer (some ⟨g, 0, none⟩)) hq (sOf T2 hq) (htOf T2 hq) (isIn T2 hq) id side amt ex h2 U5 q1' (sOf_length T2 hq OY1.out) (Lib.hid (Finds.any hq N5.out M5.out OY1.out q1' q2'))).mono ?_
                rintro e U6 ⟨rfl, hB⟩
                have B6 := Lib.hid (B5.out.trans (hB.mono B5.out.size))
                have N6 := Lib.hid (N5.out.below hB N5.out.lt)
                have M6 := Lib.hid (M5.out.below hB)
                have L6 := Lib.hid (L5.out.below hB L5.out.lt)
                have W6 := Lib.hid (W5.out.below hB W5.out.lt)
                have X6 := Lib.hid (X5.out.below hB)
                have HSM : Hid (u ≠ 0 → verd (isIn T2 hq) (htOf T2 hq) ex h2 = u) := Lib.hid (fun hne => HGJ.out.same hne)
                have HNW := Lib.hid (HGS.out _ (Good.new T2 h2 ⟨id, side, amt, hq, ex⟩))
                clear B5 N5 M5 L5 W5 X5 hB HGJ HGS q2'
                change Hid (Goods T2 h2 cs (us.set j (verd (isIn T2 hq) (htOf T2 hq) ex h2))) at HNW
                obtain ⟨v, hv⟩ : ∃ v, verd (isIn T2 hq) (htOf T2 hq) ex h2 = v := ⟨_, rfl⟩
                rw [hv] at HSM HNW ⊢
                clear hv
                have cl : U6.cell? ⟨lr, j, none⟩ = some (.int .i64 u) := (L6.out.cell j).trans HLJ.out
                have fl := L6.out.frozen j
                have BB : Hid (Below w.heap.size w (U6.setCell ⟨lr, j, none⟩ (.int .i64 v))) := Lib.hid (B6.out.setCell (p := ⟨lr, j, none⟩) HLR.out.2.2 _)
                have hG : U6.grownBy (U6.setCell ⟨lr, j, none⟩ (.int .i64 v)) (some lr) := only_setCell (p := ⟨lr, j, none⟩) (only_refl U6 _) (.inl rfl) _
                have NB := Lib.hid (N6.out.grown hG (fun e => by have := HLR.out; injection e with e; omega))
                have MB := Lib.hid (M6.out.far hG (fun e => by have := HLR.out; injection e with e; omega))
                have WB := Lib.hid (W6.out.grown hG (fun e => by have := HTW.out; injection e with e; omega))
                have XB := Lib.hid (X6.out.far hG (fun e => by have := HTW.out; injection e with e; omega))
                have LB : Hid (Blk (U6.setCell ⟨lr, j, none⟩ (.int .i64 v)) lr 65 (i64s (us.set j v))) := Lib.hid (by have h := L6.out.set_ j (.int .i64 v); rw [i64s_set] at h; exact h)
                clear hG B6 N6 M6 L6 W6 X6 HLJ
                by_cases hu0 : u = 0
                · subst hu0
                  clear HSM
                  go_wp2
                  go_roundw
                  case rel => exact ⟨j + 1, us.set j v, by omega, by go_num, BB, NB, MB, LB, WB, XB, HNW⟩
                  case measure => simp [intOf]; omega
                · have hvu : v = u := HSM.out hu0
                  have hne : ¬ (u = 0) := hu0
                  subst hvu
                  clear HSM
                  go_wp2
                  go_roundw
                  case rel => exact ⟨j + 1, us.set j v, by omega, by go_num, BB, NB, MB, LB, WB, XB, HNW⟩
                  case measure => simp [intOf]; omega
              · go_wp2
                go_roundw
                case rel => exact ⟨k + 1, h2, T2, us, by have := HKT.out; omega, by go_num, rfl, hh3.2, by omega, B3, N3, M3, L3, W3, X3, G3, OY1⟩
                case measure => have := HKT.out; simp [intOf]; omega
          · subst hA
            go_upto_region 14 with fail
            all_goals
              try rw [hsum]
              have BY1 := Bwr
              have NY1 := N0
              have MY1 := M0
              have LY1 := L0
              have WY1 := Wwr
              have XY1 := Xwr
              have GY1 := G1
              have OY1 := O0
              clear Bwr N0 M0 L0 Wwr Xwr G1 O0
              generalize T = T2 at MY1 GY1 OY1 ⊢
              generalize wr = Y1 at BY1 NY1 MY1 LY1 WY1 XY1 ⊢
              clear hcell hsum
              go_wp2
              go_loopw [65] (fun i wd => ∃ (j : Nat) (us : List Int), j ≤ ll ∧ i = .int .i64 j ∧ Hid (Below w.heap.size w wd) ∧ Hid (Blk wd g 75 [.map (some b)]) ∧ Hid (NMap wd b (T2.map tv)) ∧ Hid (Blk wd lr 65 (i64s us)) ∧ Hid (Blk wd gt 75 [.map (some bt)]) ∧ Hid (NMap wd bt ([].map tv)) ∧ Hid (Goods T2 h2 cs us)) (fun i _ => ll - (intOf i).toNat)
              case atStart => exact ⟨0, vs, Nat.zero_le _, rfl, BY1, NY1, MY1, LY1, WY1, XY1, GY1⟩
              case round =>
                clear BY1 NY1 MY1 LY1 WY1 XY1 GY1
                obtain ⟨j, us, hj, rfl, B3, N3, M3, L3, W3, X3, G3⟩ := hrel
                by_cases hjl : j < ll
                · have hjc : j < cs.length := by rw [HCL.out]; exact hjl
                  obtain ⟨bl, ol, ha, hrg⟩ : ∃ b o, la = some ⟨b, o, none⟩ ∧ wr.rangeAt b (o + j * 36) (cs.getD j cnd0).cells := by
                    rcases (HC.out.below B3.out).at_ with h1 | ⟨b, o, ha, hb, hx⟩
                    · rw [h1] at hjc; simp at hjc
                    · exact ⟨b, o, ha, hx j hjc⟩
                  subst ha
                  obtain ⟨q1, q2⟩ := HC.out.each j hjc
                  have HGJ := Lib.hid (G3.out.2 j hjc)
                  have HUL : Hid (us.length = ll) := Lib.hid (G3.out.1.trans HCL.out)
                  have HGS := Lib.hid (fun v hv => G3.out.set j v hv)
                  obtain ⟨c, hc⟩ : ∃ c, cs.getD j cnd0 = c := ⟨_, rfl⟩
                  rw [hc] at hrg q1 q2 HGJ HGS
                  obtain ⟨id, side, amt, hq, ex⟩ := c
                  have hrg' : wr.rangeAt bl (ol + j * 36) (ccells id side amt hq ex) := hrg
                  have q1' : hq.length = 32 := q1
                  have q2' : ∀ x ∈ hq, x < 256 := q2
                  have hcl := ccells_length id side amt hq ex q1'
                  have hco := ccells_one id side amt hq ex
                  have i56 : (Tryd.prog.info? 56).map (·.size) = some (ccells id side amt hq ex).length := by rw [hcl]; exact info56
                  have hz56 : (Tryd.prog.info? 56).map (·.size) = some (ccells id side amt hq ex).toArray.size := by rw [List.size_toArray, hcl]; exact info56
                  have hzz : (#[.int .u64 0, .int .i64 0, .int .u64 0, .int .u8 0, .int .u8 0, .int .u8 0, .int .u8 0, .int .u8 0, .int .u8 0, .int .u8 0, .int .u8 0, .int .u8 0, .int .u8 0, .int .u8 0, .int .u8 0, .int .u8 0, .int .u8 0, .int .u8 0, .int .u8 0, .int .u8 0, .int .u8 0, .int .u8 0, .int .u8 0, .int .u8 0, .int .u8 0, .int .u8 0, .int .u8 0, .int .u8 0, .int .u8 0, .int .u8 0, .int .u8 0, .int .u8 0, .int .u8 0, .int .u8 0, .int .u8 0, .int .u64 0] : Array Value).size = (ccells id side amt hq ex).toArray.size := by rw [show (ccells id side amt hq ex).toArray.size = 36 by rw [List.size_toArray, hcl]]; rfl
                  have HLA := heap_alloc_last wr (.cells #[.int .u64 0, .int .i64 0, .int .u64 0, .int .u8 0, .int .u8 0, .int .u8 0, .int .u8 0, .int .u8 0, .int .u8 0, .int .u8 0, .int .u8 0, .int .u8 0, .int .u8 0, .int .u8 0, .int .u8 0, .int .u8 0, .int .u8 0, .int .u8 0, .int .u8 0, .int .u8 0, .int .u8 0, .int .u8 0, .int .u8 0, .int .u8 0, .int .u8 0, .int .u8 0, .int .u8 0, .int .u8 0, .int .u8 0, .int .u8 0, .int .u8 0, .int .u8 0, .int .u8 0, .int .u8 0, .int .u8 0, .int .u64 0] 56)
                  have cl := L3.out.cell j
                  rw [i64s_get us j (by rw [HUL.out]; exact hjl)] at cl
                  obtain ⟨u, hu⟩ : ∃ u, us.getD j 0 = u := ⟨_, rfl⟩
                  rw [hu] at cl HGJ
                  have HLJ : Hid ((i64s us)[j]? = some (.int .i64 u)) := Lib.hid (by rw [← hu]; exact i64s_get us j (by rw [HUL.out]; exact hjl))
                  have j0 : (0 : Int) ≤ (j : Int) := Int.natCast_nonneg _
                  have j1 : (j : Int) < (ll : Int) := by omega
                  clear hrg q1 q2 hc hu hjc
                  go_upto_region 17 with (first | (refine wpList_load_mid rfl 56 (.tmp 68) rfl bl (ol + j * 36) rfl (ccells id side amt hq ex) _ hrg' Tryd.underlying56 rfl i56 ?_) | (refine wpList_store_row rfl 56 (.tmp 14) (.tmp 69) rfl wr.heap.size (ccells id side amt hq ex).toArray rfl rfl 56 _ HLA hz56 hzz hco ?_; rw [World.setRow_alloc_new]))
                  have hB : Below wr.heap.size wr (wr.alloc (.cells (ccells id side amt hq ex).toArray 56)) := (Below.refl _ _).alloc (Nat.le_refl _) _
                  have B4 := Lib.hid (B3.out.trans (hB.mono B3.out.size))
                  have N4 := Lib.hid (N3.out.below hB N3.out.lt)
                  have M4 := Lib.hid (M3.out.below hB)
                  have L4 := Lib.hid (L3.out.below hB L3.out.lt)
                  have W4 := Lib.hid (W3.out.below hB W3.out.lt)
                  have X4 := Lib.hid (X3.out.below hB)
                  have C4 : Hid (Blk (wr.alloc (.cells (ccells id side amt hq ex).toArray 56)) wr.heap.size 56 (ccells id side amt hq ex)) := Lib.hid (Blk.new wr 56 _)
                  clear B3 N3 M3 L3 W3 X3 HLA hB cl hrg'
                  generalize wr.alloc (.cells (ccells id side amt hq ex).toArray 56) = U4 at B4 N4 M4 L4 W4 X4 C4 ⊢
                  generalize wr.heap.size = gq at C4 ⊢
                  go_wp2_with (first | (refine wpList_load_row rfl 56 (.tmp 14) rfl gq rfl 56 (ccells id side amt hq ex).toArray (0, 0) _ C4.out Tryd.underlying56 rfl hz56 ?_))
                  refine (to_any id side amt ex hq U4 q1').mono ?_
                  rintro e U5 ⟨rfl, hB⟩
                  have B5 := Lib.hid (B4.out.trans (hB.mono B4.out.size))
                  have N5 := Lib.hid (N4.out.below hB N4.out.lt)
                  have M5 := Lib.hid (M4.out.below hB)
                  have L5 := Lib.hid (L4.out.below hB L4.out.lt)
                  have W5 := Lib.hid (W4.out.below hB W4.out.lt)
                  have X5 := Lib.hid (X4.out.below hB)
                  clear B4 N4 M4 L4 W4 X4 C4 hB
                  go_wp2_with fail
                  refine (of_of (.pointer (some ⟨g, 0, none⟩)) hq (sOf T2 hq) (htOf T2 hq) (isIn T2 hq) id side amt ex h2 U5 q1' (sOf_length T2 hq OY1.out) (Lib.hid (Finds.any hq N5.out M5.out OY1.out q1' q2'))).mono ?_
                  rintro e U6 ⟨rfl, hB⟩
                  have B6 := Lib.hid (B5.out.trans (hB.mono B5.out.size))
                  have N6 := Lib.hid (N5.out.below hB N5.out.lt)
                  have M6 := Lib.hid (M5.out.below hB)
                  have L6 := Lib.hid (L5.out.below hB L5.out.lt)
                  have W6 := Lib.hid (W5.out.below hB W5.out.lt)
                  have X6 := Lib.hid (X5.out.below hB)
                  have HSM : Hid (u ≠ 0 → verd (isIn T2 hq) (htOf T2 hq) ex h2 = u) := Lib.hid (fun hne => HGJ.out.same hne)
                  have HNW := Lib.hid (HGS.out _ (Good.new T2 h2 ⟨id, side, amt, hq, ex⟩))
                  clear B5 N5 M5 L5 W5 X5 hB HGJ HGS q2'
                  change Hid (Goods T2 h2 cs (us.set j (verd (isIn T2 hq) (htOf T2 hq) ex h2))) at HNW
                  obtain ⟨v, hv⟩ : ∃ v, verd (isIn T2 hq) (htOf T2 hq) ex h2 = v := ⟨_, rfl⟩
                  rw [hv] at HSM HNW ⊢
                  clear hv
                  have cl : U6.cell? ⟨lr, j, none⟩ = some (.int .i64 u) := (L6.out.cell j).trans HLJ.out
                  have fl := L6.out.frozen j
                  have BB : Hid (Below w.heap.size w (U6.setCell ⟨lr, j, none⟩ (.int .i64 v))) := Lib.hid (B6.out.setCell (p := ⟨lr, j, none⟩) HLR.out.2.2 _)
                  have hG : U6.grownBy (U6.setCell ⟨lr, j, none⟩ (.int .i64 v)) (some lr) := only_setCell (p := ⟨lr, j, none⟩) (only_refl U6 _) (.inl rfl) _
                  have NB := Lib.hid (N6.out.grown hG (fun e => by have := HLR.out; injection e with e; omega))
                  have MB := Lib.hid (M6.out.far hG (fun e => by have := HLR.out; injection e with e; omega))
                  have WB := Lib.hid (W6.out.grown hG (fun e => by have := HTW.out; injection e with e; omega))
                  have XB := Lib.hid (X6.out.far hG (fun e => by have := HTW.out; injection e with e; omega))
                  have LB : Hid (Blk (U6.setCell ⟨lr, j, none⟩ (.int .i64 v)) lr 65 (i64s (us.set j v))) := Lib.hid (by have h := L6.out.set_ j (.int .i64 v); rw [i64s_set] at h; exact h)
                  clear hG B6 N6 M6 L6 W6 X6 HLJ
                  by_cases hu0 : u = 0
                  · subst hu0
                    clear HSM
                    go_wp2
                    go_roundw
                    case rel => exact ⟨j + 1, us.set j v, by omega, by go_num, BB, NB, MB, LB, WB, XB, HNW⟩
                    case measure => simp [intOf]; omega
                  · have hvu : v = u := HSM.out hu0
                    have hne : ¬ (u = 0) := hu0
                    subst hvu
                    clear HSM
                    go_wp2
                    go_roundw
                    case rel => exact ⟨j + 1, us.set j v, by omega, by go_num, BB, NB, MB, LB, WB, XB, HNW⟩
                    case measure => simp [intOf]; omega
                · go_wp2
                  go_roundw
                  case rel => exact ⟨k + 1, h2, T2, us, by have := HKT.out; omega, by go_num, rfl, hh3.2, by omega, B3, N3, M3, L3, W3, X3, G3, OY1⟩
                  case measure => have := HKT.out; simp [intOf]; omega
    · go_upto_region 23 with fail
      clear N0 M0 L0 G0 O0
      go_wp2_with fail
      rw [zz_lit]
      refine (when_of (.pointer none) z32 z32 0 false wr rfl rfl (Lib.hid (Finds.nil wr z32))).mono ?_
      rintro e Z1 ⟨rfl, hB⟩
      have BZ1 := Lib.hid (Bwr.out.trans (hB.mono Bwr.out.size))
      have WZ1 := Lib.hid (Wwr.out.below hB Wwr.out.lt)
      have XZ1 := Lib.hid (Xwr.out.below hB)
      clear Bwr Wwr Xwr hB
      go_wp2_with fail
      rw [zz_lit]
      refine (secret_of (.pointer none) z32 z32 0 false Z1 rfl rfl (Lib.hid (Finds.nil Z1 z32))).mono ?_
      rintro e Z2 ⟨rfl, hB⟩
      have BZ2 := Lib.hid (BZ1.out.trans (hB.mono BZ1.out.size))
      have WZ2 := Lib.hid (WZ1.out.below hB WZ1.out.lt)
      have XZ2 := Lib.hid (XZ1.out.below hB)
      clear BZ1 WZ1 XZ1 hB
      have hz46 : (Tryd.prog.info? 46).map (·.size) = some (w8 z32).toArray.size := info46
      have hzz : (#[.int .u8 0, .int .u8 0, .int .u8 0, .int .u8 0, .int .u8 0, .int .u8 0, .int .u8 0, .int .u8 0, .int .u8 0, .int .u8 0, .int .u8 0, .int .u8 0, .int .u8 0, .int .u8 0, .int .u8 0, .int .u8 0, .int .u8 0, .int .u8 0, .int .u8 0, .int .u8 0, .int .u8 0, .int .u8 0, .int .u8 0, .int .u8 0, .int .u8 0, .int .u8 0, .int .u8 0, .int .u8 0, .int .u8 0, .int .u8 0, .int .u8 0, .int .u8 0] : Array Value).size = (w8 z32).toArray.size := rfl
      have hzo := all_oneCell_toArray (w8_one z32)
      have HLA := heap_alloc_last Z2 (.cells #[.int .u8 0, .int .u8 0, .int .u8 0, .int .u8 0, .int .u8 0, .int .u8 0, .int .u8 0, .int .u8 0, .int .u8 0, .int .u8 0, .int .u8 0, .int .u8 0, .int .u8 0, .int .u8 0, .int .u8 0, .int .u8 0, .int .u8 0, .int .u8 0, .int .u8 0, .int .u8 0, .int .u8 0, .int .u8 0, .int .u8 0, .int .u8 0, .int .u8 0, .int .u8 0, .int .u8 0, .int .u8 0, .int .u8 0, .int .u8 0, .int .u8 0, .int .u8 0] 46)
      go_upto_region 26 with (first | (refine wpList_store_row rfl 46 (.tmp 19) (.tmp 104) rfl Z2.heap.size (w8 z32).toArray rfl rfl 46 _ HLA hz46 hzz hzo ?_; rw [World.setRow_alloc_new]))
      have hB : Below Z2.heap.size Z2 (Z2.alloc (.cells (w8 z32).toArray 46)) := (Below.refl _ _).alloc (Nat.le_refl _) _
      have BZ3 := Lib.hid (BZ2.out.trans (hB.mono BZ2.out.size))
      have WZ3 := Lib.hid (WZ2.out.below hB WZ2.out.lt)
      have XZ3 := Lib.hid (XZ2.out.below hB)
      clear HLA hB BZ2 WZ2 XZ2
      generalize Z2.alloc (.cells (w8 z32).toArray 46) = Z3 at BZ3 WZ3 XZ3 ⊢
      generalize Z2.heap.size = z9
      go_wp2_with fail
      refine (awake_any Z3 (Lib.hid (HT.out.below BZ3.out HT.out.lt))).mono ?_
      rintro e Z4 ⟨rfl, hB⟩
      have BZ4 := Lib.hid (BZ3.out.trans (hB.mono BZ3.out.size))
      have WZ4 := Lib.hid (WZ3.out.below hB WZ3.out.lt)
      have XZ4 := Lib.hid (XZ3.out.below hB)
      clear BZ3 WZ3 XZ3 hB
      go_wp2_with fail
      refine (many_any gt bt ([].map tv) Z4 WZ4 XZ4).mono ?_
      rintro e Z5 ⟨rfl, rfl⟩
      rw [show (([].map tv).length : Int) = 0 from rfl]
      go_wp2_with fail
      rw [zz_lit]
      refine (tell_nil _ _ Z4 ⟨z32, rfl⟩).mono ?_
      rintro e Z6 ⟨rfl, hB⟩
      have BZ6 := Lib.hid (BZ4.out.trans (hB.mono BZ4.out.size))
      have WZ6 := Lib.hid (WZ4.out.below hB WZ4.out.lt)
      have XZ6 := Lib.hid (XZ4.out.below hB)
      clear BZ4 WZ4 XZ4 hB
      go_wp2_with fail
      refine (many_nil Z6).mono ?_
      rintro e Z7 ⟨rfl, rfl⟩
      go_wp2_with fail
      refine (twin_nil Z6).mono ?_
      rintro e Z7 ⟨rfl, rfl⟩
      go_wp2_with fail
      rw [show (Value.agg #[.int .u64 0, .int .i64 0, .int .u64 0, .int .u8 0, .int .u8 0, .int .u8 0, .int .u8 0, .int .u8 0, .int .u8 0, .int .u8 0, .int .u8 0, .int .u8 0, .int .u8 0, .int .u8 0, .int .u8 0, .int .u8 0, .int .u8 0, .int .u8 0, .int .u8 0, .int .u8 0, .int .u8 0, .int .u8 0, .int .u8 0, .int .u8 0, .int .u8 0, .int .u8 0, .int .u8 0, .int .u8 0, .int .u8 0, .int .u8 0, .int .u8 0, .int .u8 0, .int .u8 0, .int .u8 0, .int .u8 0, .int .u64 3]) = .agg (ccells 0 0 0 z32 3).toArray from rfl]
      refine (of_of (.pointer none) z32 z32 0 false 0 0 0 3 4 Z6 rfl rfl (Lib.hid (Finds.nil Z6 z32))).mono ?_
      rintro e Z7 ⟨rfl, hB⟩
      have BZ7 := Lib.hid (BZ6.out.trans (hB.mono BZ6.out.size))
      have WZ7 := Lib.hid (WZ6.out.below hB WZ6.out.lt)
      have XZ7 := Lib.hid (XZ6.out.below hB)
      clear BZ6 WZ6 XZ6 hB
      rw [show verd false 0 3 4 = 2 from rfl]
      go_wp2_with fail
      refine (hashes_nil Z7).mono ?_
      rintro e Z8 ⟨rfl, rfl⟩
      go_wp2
      go_ret
      exact ⟨rfl, BZ7.out⟩

theorem notaryLasts_walk (sa : Option Addr) (sl sc : Nat) (ss : List (List Nat)) (ta : Option Addr) (tl tc : Nat) (st : List Nat) (la : Option Addr) (ll lc : Nat) (cs : List Cnd) (w : World) (HT : Hid (Tab w)) (HS : Hid (SecRow w sa ss)) (hsl : ss.length = sl) (hsm : sl ≤ maxLen)
    (HP : Hid (StpRow w ta st)) (htl : st.length = tl) (htm : tl ≤ maxLen) (HC : Hid (CndRow w la cs)) (hcl : cs.length = ll) (hcm : ll ≤ maxLen) :
    Calls Tryd.prog 4 #[.slice sa sl sc, .slice ta tl tc, .slice la ll lc] w (Ok w) := by
  by_cases h : 20 < ll
  · exact way_dark sa sl sc ta tl tc la ll lc w HT h
  · exact way_light sa sl sc ta tl tc la ll lc ss st cs w HT (by omega) HS HP HC hsl htl hcl hsm htm
end Go.Proofs.YteoeoomdjfhmbaaDoor.notaryLasts
