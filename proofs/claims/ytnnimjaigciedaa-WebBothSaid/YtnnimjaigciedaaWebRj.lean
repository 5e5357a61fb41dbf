/-
  The document's Reach (23), of a web that may be and a node that is there.
-/
import Derived.Test.YtnnimjaigciedaaWebRi
namespace Go.Proofs.Ytnnimjaigciedaa
open Go.RowKit
set_option linter.unusedVariables false

theorem rep_false (n i : Nat) : (List.replicate n false).getD i false = false := by
  rw [List.getD_eq_getElem?_getD, List.getElem?_replicate]
  split <;> rfl
theorem begun (es : List Ed) (amt : Int) (sl nd : Nat) (h : nd < sl) : Rd1 es amt (nd : Int) sl ((List.replicate sl false).set nd true) 0 := by
  have hz : ∀ x, ¬ inB (List.replicate sl false) x := by
    rintro x ⟨_, h⟩
    rw [rep_false] at h
    cases h
  have hs := in_set (List.replicate sl false) nd (by simpa using h)
  refine ⟨by simp, fun x hx => ?_, (hs _).2 (.inr rfl), .inr ?_⟩
  · rcases (hs x).1 hx with h | rfl
    · exact absurd h (hz x)
    · exact .here
  · have h2 := (hs (nd : Int)).2 (.inr rfl)
    have := cnt_lt (List.replicate sl false) ((List.replicate sl false).set nd true) (by simp) (fun i hi => by rw [rep_false] at hi; cases hi) ⟨nd, rep_false _ _, (inB_nat _ _).1 h2⟩
    omega
set_option maxRecDepth 100000 in
set_option maxHeartbeats 8000000 in
theorem rreach_good (sa : Option Addr) (sl sc : Nat) (ea : Option Addr) (el ec : Nat) (es : List Ed) (node amt : Int) (w : World) (hE : EdgeRow w ea es) (hel : es.length = el) (hel2 : el ≤ 90) (hsl2 : sl ≤ 1000) (hok : ∀ e ∈ es, EdOk e) (hc : checkE sl es = 0) (hn : 0 ≤ node ∧ node < (sl : Int)) :
    Calls Try.prog 23 #[.agg #[.slice sa sl sc, .slice ea el ec], .int .i64 node, .int .u64 amt] w fun e w' => ∃ a c l, e = .returned (.slice a l.length c) ∧ ReachP es amt node l ∧ IRow w' a l ∧ Below w.heap.size w w' := by
  have HE := Lib.hid hE
  have HEL := Lib.hid hel
  have HOK := Lib.hid hok
  have hcc : (8 < sl ∨ 16 < es.length) = False ∧ AllGood sl es := by
    unfold checkE at hc
    split at hc
    · cases hc
    · rename_i h
      split at hc
      · rename_i h2; exact ⟨eq_false h, h2⟩
      · cases hc
  have HG : Hid (AllGood sl es ∧ sl ≤ 8) := Lib.hid ⟨hcc.2, by have := hcc.1; simp at this; omega⟩
  have HN := Lib.hid hn
  obtain ⟨i0, hi, hz0, hz1, hz2⟩ := info_parts info3i
  obtain ⟨j0, hj, hy0, hy1, hy2⟩ := info_parts info4b
  have HCK := Lib.hid (fun W (h : EdgeRow W ea es) => rcheck_any sa sl sc ea el ec es W h hel (by omega) (by omega))
  rw [hc] at HCK
  have HST := Lib.hid (fun (n : Int) W (h : EdgeRow W ea es) => rsteps_any sa sl sc ea el ec es n W h hel hel2 hsl2 hok)
  have HSO0 : Hid (∀ x, stepsL sl es x 0 = openL es x 0 es.length) := Lib.hid (fun x => if_pos hc)
  have HB0 : Hid (Below w.heap.size w (w.alloc (.cells #[.slice sa sl sc, .slice ea el ec] 25))) := Lib.hid ((Below.refl _ _).alloc (Nat.le_refl _) _)
  have HP0 : Hid (Blk (w.alloc (.cells #[.slice sa sl sc, .slice ea el ec] 25)) w.heap.size 25 [.slice sa sl sc, .slice ea el ec]) := Lib.hid (Blk.new w 25 _)
  have hn0 := hn.1
  have hn1 := hn.2
  obtain ⟨nd, hnd⟩ : ∃ nd : Nat, node = nd := ⟨node.toNat, by omega⟩
  have hsI : (sl : Int) ≤ 1000 := by omega
  clear hE hel hok hc hn hcc
  subst hnd
  have hnl : nd < sl := by omega
  go_enter Try.func23, Try.ntmps23
  have p0 : (w.alloc (.cells #[.slice sa sl sc, .slice ea el ec] 25)).cell? ⟨w.heap.size, 0, none⟩ = some (.slice sa sl sc) := HP0.out.cell 0
  have p1 : (w.alloc (.cells #[.slice sa sl sc, .slice ea el ec] 25)).cell? ⟨w.heap.size, 1, none⟩ = some (.slice ea el ec) := HP0.out.cell 1
  go_wp2_with fail
  clear p0 p1
  refine (HCK.out _ (HE.out.below HB0.out)).mono ?_
  rintro e V1 ⟨rfl, hB⟩
  have HP1 := Lib.hid (HP0.out.below hB HP0.out.lt)
  have HB1 := Lib.hid (HB0.out.trans (hB.mono HB0.out.size))
  obtain ⟨gp, hgp⟩ : ∃ gp, w.heap.size = gp := ⟨_, rfl⟩
  have HW : Hid (w.heap.size = gp) := Lib.hid hgp
  rw [hgp] at HP1 ⊢
  clear hB HP0 HB0 HCK hgp
  have p0 : V1.cell? ⟨gp, 0, none⟩ = some (.slice sa sl sc) := HP1.out.cell 0
  go_wp2_with (at_make; refine wpList_make_full _ rfl (.tmp 30) (.tmp 30) 107 rfl w.heap.size 4 j0 (.bool false) 1 Try.underlying107 hj hy0 hy1 .i64 .i64 _ _ sl rfl rfl ?c1 ?c2 ?c3 ?c4 ?c5 ?_)
  case c1 => rfl
  case c2 => rfl
  case c3 => rw [hy2]; omega
  case c4 => unfold maxLen; omega
  case c5 => exact HB1.out.size
  intro V2 hown hg
  have hB2 : Below w.heap.size w V2 := HB1.out.grown hg HB1.out.size (by simp)
  have hP2 : Blk V2 gp 25 [.slice sa sl sc, .slice ea el ec] := HP1.out.grown hg (by simp)
  have hI2 : Blk V2 V1.heap.size 4 (bo (List.replicate sl false)) := by
    rcases hown.2 with ⟨h, _⟩ | ⟨g, cap, cur, h, _, hgb, _, _, hcs, htk⟩
    · cases h
    · injection h with h1 h2 h3
      injection h1 with h1
      injection h1 with h1
      subst h1 h3
      have e : cur.toList = bo (List.replicate sl false) := by
        have h9 : (madeCells #[.bool false] sl).toList = bo (List.replicate sl false) := by rw [toList_madeCells_one]; simp [bo]
        rw [← h9, ← htk, List.take_of_length_le (by rw [Array.length_toList]; omega)]
      unfold Blk
      rw [hgb, ← e]
  have HB2 := Lib.hid hB2
  have HP2 := Lib.hid hP2
  have HI2 := Lib.hid hI2
  have HGI : Hid (w.heap.size ≤ V1.heap.size) := Lib.hid HB1.out.size
  clear hown hg hB2 hP2 hI2 HP1 HB1 p0
  generalize V1.heap.size = gi at HI2 HGI ⊢
  have hfr := HI2.out.frozen nd
  have hcd : V2.cell? ⟨gi, nd, none⟩ = some (.bool false) := by
    rw [HI2.out.cell, bo_at _ _ (by simpa using hnl), rep_false]
  have hne : gp ≠ gi := HP2.out.ne_ HI2.out (by decide)
  have HB3 : Hid (Below w.heap.size w (V2.setCell ⟨gi, nd, none⟩ (.bool true))) := Lib.hid (HB2.out.setCell (p := ⟨gi, nd, none⟩) HGI.out _)
  have HP3 : Hid (Blk (V2.setCell ⟨gi, nd, none⟩ (.bool true)) gp 25 [.slice sa sl sc, .slice ea el ec]) := Lib.hid (HP2.out.far (p := ⟨gi, nd, none⟩) hne _)
  have HI3 : Hid (Blk (V2.setCell ⟨gi, nd, none⟩ (.bool true)) gi 4 (bo ((List.replicate sl false).set nd true))) := Lib.hid (by rw [← bo_set]; exact HI2.out.set_ nd (.bool true))
  have HR3 := Lib.hid (begun es amt sl nd hnl)
  have hq0 : (V2.setCell ⟨gi, nd, none⟩ (.bool true)).cell? ⟨gp, 0, none⟩ = some (.slice sa sl sc) := HP3.out.cell 0
  clear HB2 HP2
  go_upto_region 5 with fail
  clear hfr hcd hq0
  generalize V2.setCell ⟨gi, nd, none⟩ (.bool true) = V3 at HB3 HP3 HI3 HR3 ⊢
  go_wp2_with fail
  go_loopw [8, 9, 10, 11] (fun s8 _ _ _ wd => ∃ (r : Nat) (bs : List Bool), r ≤ sl ∧ s8 = .int .i64 r ∧ Hid (Rd1 es amt (nd : Int) sl bs r) ∧ Hid (Blk wd gi 4 (bo bs)) ∧ Hid (Blk wd gp 25 [.slice sa sl sc, .slice ea el ec]) ∧ Hid (Below w.heap.size w wd)) (fun s8 _ _ _ _ => sl - (intOf s8).toNat)
  case atStart => exact ⟨0, _, Nat.zero_le _, rfl, HR3, HI3, HP3, HB3⟩
  case round =>
    clear HR3 HI3 HP3 HB3
    obtain ⟨r, B0, hr, rfl, HR, Ir, Pr, Br⟩ := hrel
    have q0 : wr.cell? ⟨gp, 0, none⟩ = some (.slice sa sl sc) := Pr.out.cell 0
    by_cases hlt : r < sl
    · have hrI : (r : Int) < (sl : Int) := by omega
      go_wp2_with fail
      clear q0
      go_loopw [9, 10, 11] (fun s9 _ _ wd => ∃ (n : Nat) (bs : List Bool), n ≤ sl ∧ s9 = .int .i64 n ∧ Hid (Rd2 es amt (nd : Int) sl B0 bs n) ∧ Hid (Blk wd gi 4 (bo bs)) ∧ Hid (Blk wd gp 25 [.slice sa sl sc, .slice ea el ec]) ∧ Hid (Below w.heap.size w wd)) (fun s9 _ _ _ => sl - (intOf s9).toNat)
      case atStart => exact ⟨0, B0, Nat.zero_le _, rfl, Lib.hid HR.out.begin, Ir, Pr, Br⟩
      case round =>
        clear Ir Pr Br
        obtain ⟨n, bs, hns, rfl, HR2, Ir, Pr, Br⟩ := hrel
        have q0 : wr.cell? ⟨gp, 0, none⟩ = some (.slice sa sl sc) := Pr.out.cell 0
        have q1 : wr.cell? ⟨gp, 1, none⟩ = some (.slice ea el ec) := Pr.out.cell 1
        by_cases hln : n < sl
        · have hnI : (n : Int) < (sl : Int) := by omega
          obtain ⟨S, hS⟩ : ∃ S, openL es (n : Int) 0 es.length = S := ⟨_, rfl⟩
          obtain ⟨m, hm⟩ : ∃ m, S.length = m := ⟨_, rfl⟩
          have HSO : Hid (S = openL es (n : Int) 0 es.length) := Lib.hid hS.symm
          have HS : Hid (stepsL sl es (n : Int) 0 = S) := Lib.hid (by rw [HSO0.out, hS])
          have HML := Lib.hid hm
          have hml : m ≤ el := by rw [← hm, ← hS, ← HEL.out]; exact openL_length es _ 0 _
          have hmI : (m : Int) ≤ 90 := by omega
          clear hS hm
          go_wp2_with fail
          clear q0 q1
          refine (HST.out (n : Int) wr (HE.out.below Br.out)).mono ?_
          rintro e V4 ⟨vL, rfl, hO, hB⟩
          rw [HS.out, HML.out] at hO
          obtain ⟨la, lc, hvl, _⟩ := StpRow.of_own (l := S) (by rw [HML.out]; exact hO)
          rw [HML.out] at hvl
          subst hvl
          have I4 := Lib.hid (Ir.out.below hB Ir.out.lt)
          have P4 := Lib.hid (Pr.out.below hB Pr.out.lt)
          have B4 := Lib.hid (Br.out.trans (hB.mono Br.out.size))
          have L4 := Lib.hid (own_lower hO Br.out.size)
          clear hO hB Ir Pr Br
          go_wp2_with fail
          go_loopw [11] (fun s11 wd => ∃ (i : Nat) (bs : List Bool), i ≤ m ∧ s11 = .int .i64 i ∧ Hid (Rd2 es amt (nd : Int) sl B0 bs n) ∧ Hid (∀ q, q < i → amt ≤ (S.getD q stp00).c → inB bs (S.getD q stp00).t) ∧ Hid (Blk wd gi 4 (bo bs)) ∧ Hid (Blk wd gp 25 [.slice sa sl sc, .slice ea el ec]) ∧ Hid (wd.ownsRow w.heap.size 47 5 (.slice la m lc) m (sflat S)) ∧ Hid (Below w.heap.size w wd)) (fun s11 _ => m - (intOf s11).toNat)
          case atStart => exact ⟨0, bs, Nat.zero_le _, rfl, HR2, Lib.hid (fun q hq => by omega), I4, P4, L4, B4⟩
          case round =>
            clear I4 P4 L4 B4 HR2
            obtain ⟨i, b2, him, rfl, HR2, HQ, Ir, Pr, Lr, Br⟩ := hrel
            have hb2n : n < b2.length := by rw [HR2.out.len]; exact hln
            have hcn : wr.cell? ⟨gi, n, none⟩ = some (.bool (b2.getD n false)) := (Ir.out.cell n).trans (bo_at b2 n hb2n)
            obtain ⟨bn, hbn⟩ : ∃ bn, b2.getD n false = bn := ⟨_, rfl⟩
            rw [hbn] at hcn
            cases bn with
            | false =>
              have HF : Hid (Rd2 es amt (nd : Int) sl B0 b2 (n + 1)) := Lib.hid (HR2.out.next (fun h => by rw [hbn] at h; cases h))
              clear hbn hb2n HQ HR2
              go_wp2
              go_roundw
              case rel => exact ⟨n + 1, b2, by omega, by go_num, HF, Ir, Pr, Br⟩
              case measure => simp [intOf]; omega
            | true =>
              by_cases hlt2 : i < m
              · have hiI : (i : Int) < (m : Int) := by omega
                have hiS : i < S.length := by rw [HML.out]; exact hlt2
                obtain ⟨la9, lc9, h9, hL9, _⟩ := StpRow.of_own (l := S) (by rw [HML.out]; exact Lr.out)
                injection h9 with h9 h10 h11
                subst h9
                clear h10 h11
                obtain ⟨bl, ol, rfl, hcl⟩ := hL9.at_ hiS
                obtain ⟨s0, hs0⟩ : ∃ s0, S.getD i stp00 = s0 := ⟨_, rfl⟩
                rw [hs0] at hcl
                obtain ⟨e9, t9, c9, b9, r9⟩ := s0
                have e1 : wr.cell? ⟨bl, ol + i * 5 + 1, none⟩ = some (.int .i64 t9) := hcl.2 1 _ rfl
                have e2 : wr.cell? ⟨bl, ol + i * 5 + 2, none⟩ = some (.int .u64 c9) := hcl.2 2 _ rfl
                have hmem : S.getD i stp00 ∈ openL es (n : Int) 0 es.length := by rw [← HSO.out]; exact stp_mem S i hiS
                have HS0 := Lib.hid hs0
                have HBN := Lib.hid hbn
                by_cases ham : amt ≤ c9
                · have hnx : Nx es amt (n : Int) t9 := ⟨S.getD i stp00, (openL_amt es (n : Int) amt HOK.out es.length (Nat.le_refl _) _).2 ⟨hmem, by rw [hs0]; exact ham⟩, by rw [hs0]⟩
                  have htr := nx_range HG.out.1 hnx
                  obtain ⟨tn, htn⟩ : ∃ tn : Nat, t9 = tn := ⟨t9.toNat, by omega⟩
                  subst htn
                  have htl : tn < sl := by omega
                  have htI : (tn : Int) < (sl : Int) := by omega
                  have HR9 := Lib.hid (HR2.out.put hbn hnx htl)
                  have HQ9 : Hid (∀ q, q < i + 1 → amt ≤ (S.getD q stp00).c → inB (b2.set tn true) (S.getD q stp00).t) := Lib.hid (fun q hq hc9 => by
                    have hs := in_set b2 tn (by rw [HR2.out.len]; exact htl) (S.getD q stp00).t
                    rcases Nat.lt_or_eq_of_le (Nat.le_of_lt_succ hq) with h | rfl
                    · exact hs.2 (.inl (HQ.out q h hc9))
                    · exact hs.2 (.inr (by rw [HS0.out])))
                  have hft := Ir.out.frozen tn
                  have hct : wr.cell? ⟨gi, tn, none⟩ = some (.bool (b2.getD tn false)) := (Ir.out.cell tn).trans (bo_at b2 tn (by rw [HR2.out.len]; exact htl))
                  have hne2 : gp ≠ gi := Pr.out.ne_ Ir.out (by decide)
                  have I9 : Hid (Blk (wr.setCell ⟨gi, tn, none⟩ (.bool true)) gi 4 (bo (b2.set tn true))) := Lib.hid (by rw [← bo_set]; exact Ir.out.set_ tn (.bool true))
                  have P9 : Hid (Blk (wr.setCell ⟨gi, tn, none⟩ (.bool true)) gp 25 [.slice sa sl sc, .slice ea el ec]) := Lib.hid (Pr.out.far (p := ⟨gi, tn, none⟩) hne2 _)
                  have L9 := Lib.hid (own_set (o := tn) (u := .bool true) Lr.out Ir.out (by decide))
                  have B9 : Hid (Below w.heap.size w (wr.setCell ⟨gi, tn, none⟩ (.bool true))) := Lib.hid (Br.out.setCell (p := ⟨gi, tn, none⟩) HGI.out _)
                  clear hnx htr hmem hs0 hbn hcl hL9 hb2n HR2 HQ hne2
                  go_wp2
                  go_roundw
                  case rel => exact ⟨i + 1, b2.set tn true, by omega, by go_num, HR9, HQ9, I9, P9, L9, B9⟩
                  case measure => simp [intOf]; omega
                · have HQ9 : Hid (∀ q, q < i + 1 → amt ≤ (S.getD q stp00).c → inB b2 (S.getD q stp00).t) := Lib.hid (fun q hq hc9 => by
                    rcases Nat.lt_or_eq_of_le (Nat.le_of_lt_succ hq) with h | rfl
                    · exact HQ.out q h hc9
                    · rw [HS0.out] at hc9; exact absurd hc9 ham)
                  clear hmem hs0 hbn hcl hL9 hb2n HQ
                  go_wp2
                  go_roundw
                  case rel => exact ⟨i + 1, b2, by omega, by go_num, HR2, HQ9, Ir, Pr, Lr, Br⟩
                  case measure => simp [intOf]; omega
              · obtain rfl : i = m := by omega
                have HF : Hid (Rd2 es amt (nd : Int) sl B0 b2 (n + 1)) := Lib.hid (HR2.out.next (fun _ y hy => by
                  obtain ⟨s9, hs9, hy9⟩ := hy
                  obtain ⟨h1, h2⟩ := (openL_amt es (n : Int) amt HOK.out es.length (Nat.le_refl _) _).1 hs9
                  rw [← HSO.out] at h1
                  obtain ⟨q, hq, hq2⟩ := List.mem_iff_getElem.1 h1
                  have h7 := HQ.out q (by rw [← HML.out]; exact hq)
                  rw [List.getD_eq_getElem?_getD, List.getElem?_eq_getElem hq, Option.getD_some, hq2, hy9] at h7
                  exact h7 h2))
                clear hbn hb2n HQ HR2 Lr
                go_wp2
                go_roundw
                case rel => exact ⟨n + 1, b2, by omega, by go_num, HF, Ir, Pr, Br⟩
                case measure => simp [intOf]; omega
        · obtain rfl : n = sl := by omega
          have HR9 := Lib.hid (HR2.out.finish (r := r) HG.out.1 HR.out.cnt)
          clear HR2 q1
          go_wp2
          go_roundw
          case rel => exact ⟨r + 1, bs, by omega, by go_num, HR9, Ir, Pr, Br⟩
          case measure => simp [intOf]; omega
    · obtain rfl : r = sl := by omega
      have HRP := Lib.hid (HR.out.reach HG.out.1 HN.out)
      have HBL := Lib.hid HR.out.len
      clear HR
      go_wp2_with fail
      clear q0
      go_loopw [12, 13] (fun s12 s13 wd => ∃ (n : Nat) (v : Value), n ≤ r ∧ s13 = .int .i64 n ∧ v = s12 ∧ Hid (wd.ownsRow w.heap.size 3 1 v (outL B0 n).length (ins (outL B0 n))) ∧ Hid (Blk wd gi 4 (bo B0)) ∧ Hid (Below w.heap.size w wd)) (fun _ s13 _ => r - (intOf s13).toNat)
      case atStart => exact ⟨0, .slice none 0 0, Nat.zero_le _, rfl, rfl, Lib.hid (World.ownsRow_nil _ _ _ _), Ir, Br⟩
      case round =>
        clear Ir Br
        obtain ⟨n, v, hnr, rfl, rfl, Or, Ir, Br⟩ := hrel
        by_cases hlt : n < r
        · have hnI : (n : Int) < (r : Int) := by omega
          have hcn : wr.cell? ⟨gi, n, none⟩ = some (.bool (B0.getD n false)) := (Ir.out.cell n).trans (bo_at B0 n (by rw [HBL.out]; exact hlt))
          have hol := outL_length B0 n
          obtain ⟨bn, hbn⟩ : ∃ bn, B0.getD n false = bn := ⟨_, rfl⟩
          rw [hbn] at hcn
          cases bn with
          | false =>
            have O9 : Hid (wr.ownsRow w.heap.size 3 1 v (outL B0 (n + 1)).length (ins (outL B0 (n + 1)))) := Lib.hid (by
              have e : outL B0 (n + 1) = outL B0 n := by
                show outL B0 n ++ _ = _
                rw [hbn]
                simp
              rw [e]; exact Or.out)
            clear hbn Or
            go_wp2
            go_roundw
            case rel => exact ⟨n + 1, v, by omega, by go_num, rfl, O9, Ir, Br⟩
            case measure => simp [intOf]; omega
          | true =>
            have e : outL B0 (n + 1) = outL B0 n ++ [(n : Int)] := by
              show outL B0 n ++ _ = _
              rw [hbn]
              simp
            have HE9 := Lib.hid e
            have hBa : Below wr.heap.size wr (wr.alloc (.cells #[.int .i64 (n : Int)] 3)) := (Below.refl _ _).alloc (Nat.le_refl _) _
            have O3 := Lib.hid (own_keepG Or.out hBa)
            have I3 := Lib.hid (Ir.out.below hBa Ir.out.lt)
            have B3 := Lib.hid (Br.out.trans (hBa.mono Br.out.size))
            have HNW := Lib.hid (cell_one_new wr (.int .i64 (n : Int)) 3)
            have HOL := Lib.hid hol
            clear hbn e hBa Or Ir Br hol
            go_wp2_with (at_builtin; refine wpList_append_own_at _ rfl (.tmp 88) (.tmp 90) 58 rfl w.heap.size 3 i0 (.int .i64 0) 1 8 Try.underlying58 hi hz0 hz1 hz2 rfl (by decide) _ (outL B0 n).length (ins (outL B0 n)) rfl O3.out ⟨wr.heap.size, 0, none⟩ 1 1 [.int .i64 (n : Int)] rfl rfl HNW.out (by intro u hu; simp at hu; subst hu; rfl) ?c1 ?c2 ?c3 ?_)
            case c1 => have := HOL.out; unfold maxLen; omega
            case c2 => have := HOL.out; omega
            case c3 => have h := B3.out.size; simpa using h
            intro v9 W9 hown hgr hnil hat
            have O9 : Hid (W9.ownsRow w.heap.size 3 1 v9 (outL B0 (n + 1)).length (ins (outL B0 (n + 1)))) := Lib.hid (by
              rw [HE9.out, ins_append, List.length_append]
              exact hown)
            have I9 := Lib.hid (I3.out.grown hgr (own_ne I3.out O3.out (by decide)))
            have B9 : Hid (Below w.heap.size w W9) := Lib.hid (B3.out.grown hgr B3.out.size (fun j hj => (World.ownsRow.lt O3.out j hj).1))
            clear hown hgr hnil hat O3 I3 B3 HNW HE9 HOL
            go_wp2
            go_roundw
            case rel => exact ⟨n + 1, v9, by omega, by go_num, rfl, O9, I9, B9⟩
            case measure => simp [intOf]; omega
        · obtain rfl : n = r := by omega
          obtain ⟨a9, c9, hv9, hR9, _⟩ := IRow.of_own Or.out
          have HRW := Lib.hid hR9
          have HV := Lib.hid hv9
          clear hR9 Or hv9
          go_wp2
          go_ret
          exact ⟨a9, c9, _, by rw [← HV.out]; rfl, HRP.out, HRW.out, Br.out⟩
end Go.Proofs.Ytnnimjaigciedaa
