/-
  The program's Near (24).
-/
import Derived.Test.YtnnimjaigciedaaWebNe
namespace Go.Proofs.Ytnnimjaigciedaa
open Go.RowKit
set_option linter.unusedVariables false

/-- The first k spots laid, the others not yet. -/
def laidK (sp : List (Int × Int)) (S : List Stp) (k : Nat) : List (Int × Int) := (S.take k).map (fun s => spotOf sp s.t) ++ List.replicate (S.length - k) (0, 0)
theorem laidK_length (sp : List (Int × Int)) (S : List Stp) (k : Nat) (hk : k ≤ S.length) : (laidK sp S k).length = S.length := by unfold laidK; rw [List.length_append, List.length_map, List.length_take, List.length_replicate]; omega
theorem laidK_zero (sp : List (Int × Int)) (S : List Stp) : laidK sp S 0 = List.replicate S.length (0, 0) := by simp [laidK]
theorem laidK_all (sp : List (Int × Int)) (S : List Stp) : laidK sp S S.length = S.map fun s => spotOf sp s.t := by simp [laidK]
theorem laidK_set (sp : List (Int × Int)) (S : List Stp) (k : Nat) (hk : k < S.length) (s : Stp) (hs : S.getD k stp00 = s) : (laidK sp S k).set k (spotOf sp s.t) = laidK sp S (k + 1) := by
  have e : S[k] = s := by rw [← hs, List.getD_eq_getElem?_getD, List.getElem?_eq_getElem hk]; rfl
  unfold laidK
  rw [List.take_succ_eq_append_getElem hk, e, List.map_append, List.append_assoc, show S.length - k = (S.length - (k + 1)) + 1 by omega, List.replicate_succ]
  rw [List.set_append_right _ _ (by simp; omega)]
  have : k - ((S.take k).map fun s => spotOf sp s.t).length = 0 := by rw [List.length_map, List.length_take]; omega
  rw [this]
  rfl
theorem flat_zeros (n : Nat) : (madeCells #[.int .i64 0, .int .i64 0] (n * 2)).toList = flat (List.replicate n (0, 0)) := by
  induction n with
  | zero => simp [madeCells, flat]
  | succ n ih =>
    rw [List.replicate_succ', show flat (List.replicate n ((0 : Int), (0 : Int)) ++ [(0, 0)]) = flat (List.replicate n (0, 0)) ++ [.int .i64 0, .int .i64 0] by simp [flat], ← ih]
    unfold madeCells
    rw [show (n + 1) * 2 = n * 2 + 1 + 1 by omega, Array.range_succ, Array.range_succ]
    simp [show n * 2 % 2 = 0 by omega, show (n * 2 + 1) % 2 = 1 by omega]

theorem own_other0 {w w' : World} {base size n : Nat} {e : TypeId} {v : Value} {xs : List Value} (h : w.ownsRow base e size v n xs) (hg : w.grownBy w' none) : w'.ownsRow base e size v n xs := by
  refine own_keepG h ⟨hg.os, hg.tape, hg.output, hg.size, fun i hi => hg.block i hi (by simp)⟩
set_option maxRecDepth 100000 in
set_option maxHeartbeats 8000000 in
theorem near_any (sa : Option Addr) (sl sc : Nat) (ea : Option Addr) (el ec : Nat) (sp : List (Int × Int)) (es : List Ed) (node amt x y : Int) (w : World) (hS : SpotRow w sa sp) (hsl : sp.length = sl) (hE : EdgeRow w ea es) (hel : es.length = el) (hel2 : el ≤ 90) (hsl2 : sl ≤ 1000) :
    Calls Try.prog 24 #[.agg #[.slice sa sl sc, .slice ea el ec], .int .i64 node, .agg #[.int .i64 x, .int .i64 y], .int .u64 amt] w fun e w' => e = .returned (.int .i64 (nearA sl sp es node amt x y)) ∧ Below w.heap.size w w' := by
  have HSP := Lib.hid hS
  have HSL := Lib.hid hsl
  have HE := Lib.hid hE
  have HEL := Lib.hid hel
  obtain ⟨i0, hi, hz0, hz1, hz2⟩ := info_parts spot_info
  obtain ⟨S, hSS⟩ : ∃ S, stepsL sl es node amt = S := ⟨_, rfl⟩
  obtain ⟨n, hn⟩ : ∃ n, S.length = n := ⟨_, rfl⟩
  have HT : Hid (∀ s ∈ S, 0 ≤ s.t ∧ s.t < (sl : Int)) := Lib.hid (fun s hs => stepsL_t (by rw [hSS]; exact hs))
  have HA : Hid (nearA sl sp es node amt x y = ansI S (nearP x y (S.map fun s => spotOf sp s.t))) := Lib.hid (by unfold nearA; rw [hSS])
  have hnl : n ≤ el := by rw [← hn, ← hSS, ← hel]; exact stepsL_length
  have HSS := Lib.hid hSS
  have HNN := Lib.hid hn
  have hnI : (n : Int) ≤ 90 := by omega
  have hOP := fun W (h : EdgeRow W ea es) => open_any sa sl sc ea el ec es node amt W h hel hel2 hsl2
  have HOP := Lib.hid hOP
  have HB0 : Hid (Below w.heap.size w ((w.alloc (.cells #[.slice sa sl sc, .slice ea el ec] 31)).alloc (.cells #[.int .i64 x, .int .i64 y] 62))) := Lib.hid (((Below.refl _ _).alloc (Nat.le_refl _) _).alloc (by simp) _)
  have HP0 : Hid (Blk ((w.alloc (.cells #[.slice sa sl sc, .slice ea el ec] 31)).alloc (.cells #[.int .i64 x, .int .i64 y] 62)) w.heap.size 31 [.slice sa sl sc, .slice ea el ec]) := Lib.hid ((Blk.new w 31 [.slice sa sl sc, .slice ea el ec]).alloc _)
  have HQ0 : Hid (Blk ((w.alloc (.cells #[.slice sa sl sc, .slice ea el ec] 31)).alloc (.cells #[.int .i64 x, .int .i64 y] 62)) (w.heap.size + 1) 62 [.int .i64 x, .int .i64 y]) := Lib.hid (Blk.mk_ (cs := [.int .i64 x, .int .i64 y]) (by simp))
  clear hS hsl hE hel hSS hn hOP
  go_enter Try.func24, Try.ntmps24
  have p0 : ((w.alloc (.cells #[.slice sa sl sc, .slice ea el ec] 31)).alloc (.cells #[.int .i64 x, .int .i64 y] 62)).cell? ⟨w.heap.size, 0, none⟩ = some (.slice sa sl sc) := HP0.out.cell 0
  have p1 : ((w.alloc (.cells #[.slice sa sl sc, .slice ea el ec] 31)).alloc (.cells #[.int .i64 x, .int .i64 y] 62)).cell? ⟨w.heap.size, 1, none⟩ = some (.slice ea el ec) := HP0.out.cell 1
  go_wp2_with fail
  clear p0 p1
  refine (HOP.out _ (HE.out.below HB0.out)).mono ?_
  rintro e V1 ⟨vL, rfl, hO, hB⟩
  rw [HSS.out, HNN.out] at hO
  obtain ⟨la, lc, hvl, _⟩ := StpRow.of_own (l := S) (by rw [HNN.out]; exact hO)
  rw [HNN.out] at hvl
  subst hvl
  have HP1 := Lib.hid (HP0.out.below hB HP0.out.lt)
  have HQ1 := Lib.hid (HQ0.out.below hB HQ0.out.lt)
  have HB1 := Lib.hid (HB0.out.trans (hB.mono HB0.out.size))
  have HL1 := Lib.hid (own_lower hO HB0.out.size)
  obtain ⟨gp, hgp⟩ : ∃ gp, w.heap.size = gp := ⟨_, rfl⟩
  have HW : Hid (w.heap.size = gp) := Lib.hid hgp
  rw [hgp] at HP1 HQ1 ⊢
  clear hO hB HP0 HQ0 HB0 hgp HOP
  go_wp2_with (at_make; refine wpList_make_full _ rfl (.tmp 19) (.tmp 19) 28 rfl w.heap.size 62 i0 (.agg #[.int .i64 0, .int .i64 0]) 2 Try.underlying28 hi hz0 hz1 .i64 .i64 _ _ n rfl rfl ?c1 ?c2 ?c3 ?c4 ?c5 ?_)
  case c1 => rfl
  case c2 => rfl
  case c3 => rw [hz2]; omega
  case c4 => unfold maxLen; omega
  case c5 => exact HB1.out.size
  intro V2 hown hg
  have HB2 : Hid (Below w.heap.size w V2) := Lib.hid (HB1.out.grown hg HB1.out.size (by simp))
  have HP2 := Lib.hid (HP1.out.grown hg (by simp))
  have HQ2 := Lib.hid (HQ1.out.grown hg (by simp))
  have HL2 := Lib.hid (own_other0 HL1.out hg)
  have HG2 : Hid (Blk V2 V1.heap.size 62 (flat (laidK sp S 0))) := Lib.hid (by
    rcases hown.2 with ⟨h, _⟩ | ⟨g, cap, cur, h, _, hgb, _, _, hcs, htk⟩
    · cases h
    · injection h with h1 h2 h3
      injection h1 with h1
      injection h1 with h1
      subst h1 h3
      have e : cur.toList = flat (laidK sp S 0) := by
        rw [laidK_zero, HNN.out, ← flat_zeros]
        rw [List.take_of_length_le (by rw [Array.length_toList]; omega)] at htk
        exact htk
      unfold Blk
      rw [hgb, ← e])
  have HGW : Hid (w.heap.size ≤ V1.heap.size ∧ gp + 1 < V1.heap.size) := Lib.hid ⟨HB1.out.size, HQ1.out.lt⟩
  clear hown hg HP1 HQ1 HB1 HL1
  generalize V1.heap.size = gs at HG2 HGW ⊢
  go_wp2_with fail
  go_loopw [11, 12, 23] (fun _ _ j wd => ∃ (k : Nat), k ≤ n ∧ j = .int .i64 k ∧ Hid (Blk wd gs 62 (flat (laidK sp S k))) ∧ Hid (Blk wd gp 31 [.slice sa sl sc, .slice ea el ec]) ∧ Hid (Blk wd (gp + 1) 62 [.int .i64 x, .int .i64 y]) ∧ Hid (wd.ownsRow w.heap.size 44 5 (.slice la n lc) n (sflat S)) ∧ Hid (Below w.heap.size w wd)) (fun _ _ j _ => n - (intOf j).toNat)
  case atStart => exact ⟨0, Nat.zero_le _, rfl, HG2, HP2, HQ2, HL2, HB2⟩
  case round =>
    clear HG2 HP2 HQ2 HL2 HB2
    obtain ⟨k, hk, rfl, Gr, Pr, Qr, Lr, Br⟩ := hrel
    by_cases hlt : k < n
    · have hkI : (k : Int) < (n : Int) := by omega
      have hiS : k < S.length := by rw [HNN.out]; exact hlt
      obtain ⟨la9, lc9, h9, hL9, _⟩ := StpRow.of_own (l := S) (by rw [HNN.out]; exact Lr.out)
      injection h9 with h9 h10 h11
      subst h9
      clear h10 h11
      obtain ⟨bl, ol, rfl, hcl⟩ := hL9.at_ hiS
      have htr := HT.out _ (stp_mem S k hiS)
      obtain ⟨s0, hs0⟩ : ∃ s0, S.getD k stp00 = s0 := ⟨_, rfl⟩
      have HSET := Lib.hid (laidK_set sp S k hiS s0 hs0)
      rw [hs0] at hcl htr
      obtain ⟨e9, t9, c9, b9, r9⟩ := s0
      simp only at htr HSET
      obtain ⟨tn, htn⟩ : ∃ tn : Nat, t9 = tn := ⟨t9.toNat, by omega⟩
      subst htn
      have htl : tn < sl := by omega
      have htI : (tn : Int) < (sl : Int) := by omega
      obtain ⟨bs, os, hsa, hbs, hcs⟩ : ∃ b off, sa = some ⟨b, off, none⟩ ∧ b < w.heap.size ∧ w.cell? ⟨b, off + tn * 2, none⟩ = some (.int .i64 (spotOf sp (tn : Int)).1) ∧ w.cell? ⟨b, off + tn * 2 + 1, none⟩ = some (.int .i64 (spotOf sp (tn : Int)).2) := by
        rcases HSP.out with h | ⟨b, off, h1, h2, h3⟩
        · exfalso; have := HSL.out; rw [h] at this; simp at this; omega
        · exact ⟨b, off, h1, h2, h3 tn (by rw [HSL.out]; exact htl)⟩
      subst hsa
      obtain ⟨u, hu⟩ : ∃ u, (spotOf sp (tn : Int)).1 = u := ⟨_, rfl⟩
      obtain ⟨v, hv⟩ : ∃ v, (spotOf sp (tn : Int)).2 = v := ⟨_, rfl⟩
      rw [hu, hv] at hcs
      have huv : spotOf sp (tn : Int) = (u, v) := by rw [← hu, ← hv]
      rw [huv] at HSET
      have hbr : bs < wr.heap.size := Nat.lt_of_lt_of_le hbs Br.out.size
      have s0 : wr.cell? ⟨bs, os + tn * 2, none⟩ = some (.int .i64 u) := (Br.out.cell (p := ⟨bs, os + tn * 2, none⟩) hbs).trans hcs.1
      have s1 : wr.cell? ⟨bs, os + tn * 2 + 1, none⟩ = some (.int .i64 v) := (Br.out.cell (p := ⟨bs, os + tn * 2 + 1, none⟩) hbs).trans hcs.2
      have e0 : wr.cell? ⟨bl, ol + k * 5, none⟩ = some (.int .i64 e9) := hcl.2 0 _ rfl
      have e1 : wr.cell? ⟨bl, ol + k * 5 + 1, none⟩ = some (.int .i64 (tn : Int)) := hcl.2 1 _ rfl
      have e2 : wr.cell? ⟨bl, ol + k * 5 + 2, none⟩ = some (.int .u64 c9) := hcl.2 2 _ rfl
      have e3 : wr.cell? ⟨bl, ol + k * 5 + 3, none⟩ = some (.int .u64 b9) := hcl.2 3 _ rfl
      have e4 : wr.cell? ⟨bl, ol + k * 5 + 4, none⟩ = some (.int .u64 r9) := hcl.2 4 _ rfl
      have hBo : Below wr.heap.size wr (wr.alloc (.cells #[.int .i64 e9, .int .i64 (tn : Int), .int .u64 c9, .int .u64 b9, .int .u64 r9] 44)) := (Below.refl _ _).alloc (Nat.le_refl _) _
      have O : Hid (Blk (wr.alloc (.cells #[.int .i64 e9, .int .i64 (tn : Int), .int .u64 c9, .int .u64 b9, .int .u64 r9] 44)) wr.heap.size 44 [.int .i64 e9, .int .i64 (tn : Int), .int .u64 c9, .int .u64 b9, .int .u64 r9]) := Lib.hid (Blk.new wr 44 _)
      have G := Lib.hid (Gr.out.below hBo Gr.out.lt)
      have P := Lib.hid (Pr.out.below hBo Pr.out.lt)
      have Q := Lib.hid (Qr.out.below hBo Qr.out.lt)
      have L := Lib.hid (own_keepG Lr.out hBo)
      have B := Lib.hid (Br.out.trans (hBo.mono Br.out.size))
      have t0 : (wr.alloc (.cells #[.int .i64 e9, .int .i64 (tn : Int), .int .u64 c9, .int .u64 b9, .int .u64 r9] 44)).cell? ⟨bs, os + tn * 2, none⟩ = some (.int .i64 u) := (hBo.cell (p := ⟨bs, os + tn * 2, none⟩) hbr).trans s0
      have t1 : (wr.alloc (.cells #[.int .i64 e9, .int .i64 (tn : Int), .int .u64 c9, .int .u64 b9, .int .u64 r9] 44)).cell? ⟨bs, os + tn * 2 + 1, none⟩ = some (.int .i64 v) := (hBo.cell (p := ⟨bs, os + tn * 2 + 1, none⟩) hbr).trans s1
      clear hcl hs0 hBo Gr Pr Qr Lr Br hiS hL9 hcs hu hv huv htr s0 s1
      go_upto_region 6 with fail
      clear e0 e1 e2 e3 e4
      generalize wr.alloc (.cells #[.int .i64 e9, .int .i64 (tn : Int), .int .u64 c9, .int .u64 b9, .int .u64 r9] 44) = V at O G P Q L B t0 t1 ⊢
      generalize wr.heap.size = go at O hbr ⊢
      have o1 : V.cell? ⟨go, 1, none⟩ = some (.int .i64 (tn : Int)) := O.out.cell 1
      have q0 : V.cell? ⟨gp, 0, none⟩ = some (.slice (some ⟨bs, os, none⟩) sl sc) := P.out.cell 0
      have hkl : k < (laidK sp S k).length := by rw [laidK_length _ _ _ (by rw [HNN.out]; exact hk), HNN.out]; exact hlt
      obtain ⟨g0, hg0⟩ : ∃ g0, V.cell? ⟨gs, k * 2, none⟩ = some g0 := ⟨_, (G.out.cell _).trans (flat_at _ k hkl).1⟩
      obtain ⟨g1, hg1⟩ : ∃ g1, V.cell? ⟨gs, k * 2 + 1, none⟩ = some g1 := ⟨_, (G.out.cell _).trans (flat_at _ k hkl).2⟩
      have f0 := G.out.frozen (k * 2)
      have f1 := G.out.frozen (k * 2 + 1)
      have G9 : Hid (Blk ((V.setCell ⟨gs, k * 2, none⟩ (.int .i64 u)).setCell ⟨gs, k * 2 + 1, none⟩ (.int .i64 v)) gs 62 (flat (laidK sp S (k + 1)))) := Lib.hid (by
        rw [← HSET.out, ← flat_set _ u v k hkl]
        exact (G.out.set_ (k * 2) (.int .i64 u)).set_ (k * 2 + 1) (.int .i64 v))
      have hn1 : gp ≠ gs := P.out.ne_ G.out (by decide)
      have P9 : Hid (Blk ((V.setCell ⟨gs, k * 2, none⟩ (.int .i64 u)).setCell ⟨gs, k * 2 + 1, none⟩ (.int .i64 v)) gp 31 [.slice (some ⟨bs, os, none⟩) sl sc, .slice ea el ec]) := Lib.hid ((P.out.far (p := ⟨gs, k * 2, none⟩) hn1 _).far (p := ⟨gs, k * 2 + 1, none⟩) hn1 _)
      have hn2 : gp + 1 ≠ gs := fun e => by have := HGW.out.2; omega
      have Q9 : Hid (Blk ((V.setCell ⟨gs, k * 2, none⟩ (.int .i64 u)).setCell ⟨gs, k * 2 + 1, none⟩ (.int .i64 v)) (gp + 1) 62 [.int .i64 x, .int .i64 y]) := Lib.hid ((Q.out.far (p := ⟨gs, k * 2, none⟩) hn2 _).far (p := ⟨gs, k * 2 + 1, none⟩) hn2 _)
      have L9 := Lib.hid (own_set (o := k * 2 + 1) (u := .int .i64 v) (own_set (o := k * 2) (u := .int .i64 u) L.out G.out (by decide)) (G.out.set_ (k * 2) (.int .i64 u)) (by decide))
      have B9 : Hid (Below w.heap.size w ((V.setCell ⟨gs, k * 2, none⟩ (.int .i64 u)).setCell ⟨gs, k * 2 + 1, none⟩ (.int .i64 v))) := Lib.hid ((B.out.setCell (p := ⟨gs, k * 2, none⟩) HGW.out.1 _).setCell (p := ⟨gs, k * 2 + 1, none⟩) HGW.out.1 _)
      clear O G P Q L B HSET hkl hn1 hn2
      go_wp2
      go_roundw
      case rel => exact ⟨k + 1, by omega, by go_num, G9, P9, Q9, L9, B9⟩
      case measure => simp [intOf]; omega
    · obtain rfl : k = n := by omega
      have HNE : Hid (Calls Try.prog 50 #[.agg #[.int .i64 x, .int .i64 y], .slice (some ⟨gs, 0, none⟩) k k] wr fun e w' => e = .returned (.int .i64 (nearP x y (S.map fun s => spotOf sp s.t))) ∧ Below wr.heap.size wr w') := Lib.hid (by
        have hS := spots_blk Gr.out
        rw [← HNN.out, laidK_all] at hS
        have h := nearest_any x y (some ⟨gs, 0, none⟩) k (S.map fun s => spotOf sp s.t) wr hS (by rw [List.length_map, HNN.out]; omega)
        rw [List.length_map, HNN.out] at h
        exact h)
      obtain ⟨r, hr⟩ : ∃ r, nearP x y (S.map fun s => spotOf sp s.t) = r := ⟨_, rfl⟩
      have hrb : -1 ≤ r ∧ r < (k : Int) := by
        have h := near_range x y (S.map fun s => spotOf sp s.t)
        rw [hr, List.length_map, HNN.out] at h
        exact h
      rw [hr] at HNE HA
      have q0 : wr.cell? ⟨gp + 1, 0, none⟩ = some (.int .i64 x) := Qr.out.cell 0
      have q1 : wr.cell? ⟨gp + 1, 1, none⟩ = some (.int .i64 y) := Qr.out.cell 1
      clear hr
      go_wp2_with fail
      clear q0 q1
      refine HNE.out.mono ?_
      rintro e W9 ⟨rfl, hB⟩
      have HB9 := Lib.hid (Br.out.trans (hB.mono Br.out.size))
      have HL9 := Lib.hid (own_keepG Lr.out hB)
      clear hB HNE Lr Br Gr Pr Qr
      by_cases h0 : r < 0
      · have HA9 : Hid (nearA sl sp es node amt x y = -1) := Lib.hid (by rw [HA.out]; unfold ansI; rw [if_pos h0])
        go_wp2
        go_ret
        exact ⟨by rw [HA9.out]; rfl, HB9.out⟩
      · obtain ⟨rn, hrn⟩ : ∃ rn : Nat, r = rn := ⟨r.toNat, by omega⟩
        subst hrn
        have hrl : rn < k := by omega
        have hrI : (rn : Int) < (k : Int) := by omega
        have hrS : rn < S.length := by rw [HNN.out]; exact hrl
        obtain ⟨la9, lc9, h9, hL9, _⟩ := StpRow.of_own (l := S) (by rw [HNN.out]; exact HL9.out)
        injection h9 with h9 h10 h11
        subst h9
        clear h10 h11
        obtain ⟨bl, ol, rfl, hcl⟩ := hL9.at_ hrS
        have e1 : W9.cell? ⟨bl, ol + rn * 5 + 1, none⟩ = some (.int .i64 (S.getD rn stp00).t) := hcl.2 1 _ rfl
        have HA9 : Hid (nearA sl sp es node amt x y = (S.getD rn stp00).t) := Lib.hid (by rw [HA.out]; unfold ansI; rw [if_neg h0]; rfl)
        obtain ⟨t, ht⟩ : ∃ t, (S.getD rn stp00).t = t := ⟨_, rfl⟩
        rw [ht] at e1 HA9
        clear hcl hL9 hrS ht hrb h0
        go_wp2
        go_ret
        exact ⟨by rw [HA9.out]; rfl, HB9.out⟩
end Go.Proofs.Ytnnimjaigciedaa
