/-
  The document's Parse 17, once its line answers as lineE.
-/
import Derived.Test.YtkilajobnlagbaaDoorCodFE
namespace Go.Proofs.YtkilajobnlagbaaDoor
open Go.RowKit
set_option linter.unusedVariables false

theorem firstBad_app : ∀ (D : List ByteArray) (s : ByteArray) (r : List ByteArray), firstBad D = 0 → (lineE s).1 ≠ 0 → firstBad (D ++ s :: r) = (lineE s).1
  | [], s, r, _, h => by
    show firstBad (s :: r) = _
    unfold firstBad
    rw [if_pos h]
  | d :: D, s, r, h0, h => by
    unfold firstBad at h0
    by_cases hd : (lineE d).1 ≠ 0
    · rw [if_pos hd] at h0
      exact absurd h0 hd
    rw [if_neg hd] at h0
    show firstBad (d :: (D ++ s :: r)) = _
    unfold firstBad
    rw [if_neg hd]
    exact firstBad_app D s r h0 h
theorem firstBad_snoc : ∀ (D : List ByteArray) (s : ByteArray), firstBad D = 0 → (lineE s).1 = 0 → firstBad (D ++ [s]) = 0
  | [], s, _, h => by
    show firstBad [s] = 0
    unfold firstBad
    rw [if_neg (by simpa using h)]
    rfl
  | d :: D, s, h0, h => by
    unfold firstBad at h0
    by_cases hd : (lineE d).1 ≠ 0
    · rw [if_pos hd] at h0
      exact absurd h0 hd
    rw [if_neg hd] at h0
    show firstBad (d :: (D ++ [s])) = _
    unfold firstBad
    rw [if_neg hd]
    exact firstBad_snoc D s h0 h
theorem allL_snoc (D : List ByteArray) (s : ByteArray) : allL (D ++ [s]) = allL D ++ (lineE s).2 := by simp [allL]
theorem linesT_of (t : ByteArray) (D : List ByteArray) (h : segs t.data.toList = D.map (·.data.toList)) : linesT t = D := map_data _ _ (by rw [lines_segs, h])
theorem linesT_more (t : ByteArray) (D : List ByteArray) (s : ByteArray) (r : List (List UInt8)) (h : segs t.data.toList = D.map (·.data.toList) ++ s.data.toList :: r) : linesT t = D ++ s :: r.map (fun x => ⟨x.toArray⟩) := map_data _ _ (by
  rw [lines_segs, h]
  simp only [List.map_append, List.map_cons, List.map_map]
  congr 2
  exact (List.map_id r).symm)
theorem extract_list (t : ByteArray) (fr i : Nat) (hf : fr ≤ i) (hi : i ≤ t.size) : (t.extract fr i).data.toList = (t.data.toList.drop fr).take (i - fr) := by
  rw [ByteArray.data_extract, Array.toList_extract]
  try simp [List.extract]

theorem seg_last (l : List UInt8) (fr i n : Nat) (hl : l.length = n) (h1 : fr ≤ i) (h2 : i = n) (h3 : (10 : UInt8) ∉ (l.drop fr).take (i - fr)) : segs (l.drop fr) = (l.drop fr).take (i - fr) :: [] := by
  subst h2
  subst hl
  exact segs_end l fr h1 h3

set_option maxRecDepth 100000 in
set_option maxHeartbeats 4000000 in
theorem rparse_lines (HLN : Hid (∀ (s : ByteArray) (w : World), s.size ≤ 4096 → Calls Tryd.prog 36 #[.string s] w (ParPost w (lineE s).1 (lineE s).2))) (t : ByteArray) (w : World) (hsz : ¬ 4096 < t.size) (hne : t ≠ ⟨#[]⟩) :
    Calls Tryd.prog 17 #[.string t] w (ParPost w (parseV t).1 (parseV t).2) := by
  have hpv : parseV t = if firstBad (linesT t) ≠ 0 then (firstBad (linesT t), []) else if (ordsV (allL (linesT t))).1 ≠ 0 then ((ordsV (allL (linesT t))).1, []) else (0, allL (linesT t)) := by
    unfold parseV
    rw [if_neg hsz, if_neg hne]
  obtain ⟨R, hR⟩ : ∃ R, parseV t = R := ⟨_, rfl⟩
  rw [hR] at hpv ⊢
  have HR := Lib.hid hpv
  obtain ⟨n, hn⟩ : ∃ n, t.size = n := ⟨_, rfl⟩
  have hln : t.data.toList.length = n := by rw [Array.length_toList]; exact hn
  have HLL := Lib.hid hln
  have HN := Lib.hid hn
  have d1 : ¬ ((4096 : Int) < (t.size : Int)) := by omega
  have n9 : (n : Int) ≤ 4096 := by omega
  have n0 : (0 : Int) ≤ (n : Int) := Int.natCast_nonneg _
  have d4 : t.toList.isEmpty = false := by
    rw [ByteArray.toList_eq]
    cases h : t.data.toList with
    | nil => exact absurd (by cases t with | mk d => cases d with | mk l => simp at h; subst h; rfl) hne
    | cons a b => rfl
  rw [hn] at d1
  clear hpv hR hln hsz hne
  go_enter Tryd.func17, Tryd.ntmps17
  rw [← hn] at d1
  go_wp2_with fail
  go_loopw [4, 5, 6] (fun v a b wr => ∃ (fr i : Nat) (D : List ByteArray), a = .int .i64 fr ∧ b = .int .i64 i ∧ i ≤ n + 1 ∧ Hid (Oct.Own wr w.heap.size v (allL D)) ∧ Hid (firstBad D = 0) ∧ Hid (D.length ≤ i) ∧ Hid (fr ≤ i ∧ i ≤ n ∧ (10 : UInt8) ∉ (t.data.toList.drop fr).take (i - fr) ∧ segs t.data.toList = D.map (·.data.toList) ++ segs (t.data.toList.drop fr) ∨ i = n + 1 ∧ segs t.data.toList = D.map (·.data.toList)) ∧ Hid (Below w.heap.size w wr)) (fun _ _ b _ => n + 1 - (intOf b).toNat)
  case atStart => exact ⟨0, 0, [], rfl, rfl, by omega, Lib.hid (Oct.Own.nil _ _), Lib.hid rfl, Lib.hid (by simp), Lib.hid (.inl ⟨by omega, by omega, by simp, by simp⟩), Lib.hid (Below.refl _ _)⟩
  case round =>
    obtain ⟨fr, i, D, rfl, rfl, hi, HO, HF, HD, HS, HB⟩ := hrel
    have i0 : (0 : Int) ≤ (i : Int) := Int.natCast_nonneg _
    have f0 : (0 : Int) ≤ (fr : Int) := Int.natCast_nonneg _
    by_cases hle : i ≤ n
    · have ki : (i : Int) ≤ (n : Int) := by omega
      obtain ⟨h1, _, h3, h4⟩ : fr ≤ i ∧ i ≤ n ∧ (10 : UInt8) ∉ (t.data.toList.drop fr).take (i - fr) ∧ segs t.data.toList = D.map (·.data.toList) ++ segs (t.data.toList.drop fr) := by
        rcases HS.out with h | h
        · exact h
        · omega
      by_cases hlt : i < n
      · have ki2 : (i : Int) < (n : Int) := by omega
        have hit : i < t.data.toList.length := by rw [HLL.out]; exact hlt
        by_cases hc : t.data.toList[i] = 10
        · have hx : ((t[i]'(by rw [HN.out]; exact hlt)).toNat : Int) = 10 := by
            have : t[i]'(by rw [HN.out]; exact hlt) = t.data.toList[i] := by rw [Array.getElem_toList]; rfl
            rw [this, hc]
            rfl
          have hseg : segs (t.data.toList.drop fr) = (t.data.toList.drop fr).take (i - fr) :: segs (t.data.toList.drop (i + 1)) := segs_at t.data.toList fr i h1 hit hc h3
          have hex := extract_list t fr i h1 (by rw [HN.out]; omega)
          obtain ⟨s, hs⟩ : ∃ s, t.extract fr i = s := ⟨_, rfl⟩
          rw [hs] at hex
          have hsz : s.size ≤ 4096 := by rw [← hs, ByteArray.size_extract, HN.out]; omega
          rw [hseg, ← hex] at h4
          have hseg2 := h4
          have HLI := Lib.hid (HLN.out s wr hsz)
          have hf9 := lineE_len s
          have hal := allL_snoc D s
          have hfa := firstBad_app D s ((segs (t.data.toList.drop (i + 1))).map (fun x : List UInt8 => (⟨x.toArray⟩ : ByteArray))) HF.out
          have hfs := firstBad_snoc D s HF.out
          have hlm := linesT_more t D s _ h4
          obtain ⟨c, hc9⟩ : ∃ c, (lineE s).1 = c := ⟨_, rfl⟩
          obtain ⟨l, hl9⟩ : ∃ l, (lineE s).2 = l := ⟨_, rfl⟩
          rw [hc9, hl9] at HLI
          rw [hc9] at hfa hfs
          rw [hl9] at hal hf9
          have hfr := congrArg firstBad hlm
          have HS2 : Hid (True) := Lib.hid trivial
          have HS3 : Hid ((i + 1) ≤ i + 1 ∧ i + 1 ≤ n ∧ (10 : UInt8) ∉ (t.data.toList.drop (i + 1)).take (i + 1 - (i + 1)) ∧ segs t.data.toList = (D ++ [s]).map (·.data.toList) ++ segs (t.data.toList.drop (i + 1)) ∨ i + 1 = n + 1 ∧ segs t.data.toList = (D ++ [s]).map (·.data.toList)) := Lib.hid (.inl ⟨by omega, by omega, by simp, by rw [hseg2, List.map_append, List.append_assoc]; rfl⟩)
          have HAL := Lib.hid hal
          have HFA := Lib.hid hfa
          have HFS := Lib.hid hfs
          have HFR := Lib.hid hfr
          have HD2 : Hid ((D ++ [s]).length ≤ i + 1) := Lib.hid (by rw [List.length_append]; have := HD.out; simp; omega)
          obtain ⟨xs, hxs⟩ : ∃ xs, allL D = xs := ⟨_, rfl⟩
          have hxl : xs.length ≤ 9 * D.length := by rw [← hxs]; exact allL_len D
          rw [hxs] at HO HAL
          have HXL : Hid (xs.length ≤ 100000) := Lib.hid (by have := HD.out; omega)
          have HF9 := Lib.hid hf9
          clear hseg hex hsz h4 hseg2 hal hfa hfs hlm hc9 hl9 hfr hxs hxl h3 hf9
          by_cases hc0 : c = 0
          · subst hc0
            have HF3 := Lib.hid (HFS.out rfl)
            clear HFA HFR HFS
            go_wp2_with fail
            refine HLI.out.mono ?_
            rintro e w2 ⟨vL, rfl, hOL, hBL⟩
            have HO2 := Lib.hid (Oct.Own.below HO.out hBL)
            have HB2 := Lib.hid (HB.out.trans (hBL.mono HB.out.size))
            obtain ⟨A, cc, rfl, hSr⟩ := Oct.Own.src hOL
            have HSr := Lib.hid hSr
            obtain ⟨len, hlen⟩ : ∃ len, l.length = len := ⟨_, rfl⟩
            rw [hlen]
            have HLE := Lib.hid hlen
            clear hOL hBL hSr hlen HO HB HLI
            go_wp2_with (at_builtin; refine Oct.wpList_app rfl (.tmp 44) (.tmp 45) 22 22 rfl Tryd.underlying22 Tryd.underlying22 w.heap.size u4 xs l rfl HO2.out A len cc rfl HLE.out.symm HSr.out ?c1 HB2.out.size ?_)
            case c1 =>
              have h1 := HXL.out
              have h2 := HF9.out
              omega
            intro v2 w3 hO3 hG3 _
            have HO3 : Hid (Oct.Own w3 w.heap.size v2 (allL (D ++ [s]))) := Lib.hid (by rw [HAL.out]; exact hO3)
            have HB3 := Lib.hid (HB2.out.grown hG3 HB2.out.size (fun j hj => (World.ownsRow.lt HO2.out j hj).1))
            clear hO3 hG3 HO2 HB2 HLE HSr HAL
            go_wp2_with fail
            exact ⟨⟨i + 1, i + 1, D ++ [s], by go_num, by go_num, by omega, HO3, HF3, HD2, HS3, HB3⟩, by show n + 1 - (i + 1) < n + 1 - i; omega⟩
          · have HR2 : Hid (R = (c, [])) := Lib.hid (by rw [HR.out, HFR.out, HFA.out hc0, if_pos hc0])
            clear HFA HFR HFS HS3
            go_wp2_with fail
            refine HLI.out.mono ?_
            rintro e w2 ⟨vL, rfl, hOL, hBL⟩
            have HB2 := Lib.hid (HB.out.trans (hBL.mono HB.out.size))
            clear hOL hBL HO HB HLI
            go_wp2_with fail
            go_ret2
            rw [HR2.out]
            exact ⟨_, rfl, Oct.Own.nil _ _, HB2.out⟩
        · have h5 := noten_step t.data.toList fr i h1 hit hc h3
          clear h3
          have HN2 : Hid (fr ≤ i + 1 ∧ i + 1 ≤ n ∧ (10 : UInt8) ∉ (t.data.toList.drop fr).take (i + 1 - fr) ∧ segs t.data.toList = D.map (·.data.toList) ++ segs (t.data.toList.drop fr) ∨ i + 1 = n + 1 ∧ segs t.data.toList = D.map (·.data.toList)) := Lib.hid (.inl ⟨by omega, by omega, h5, h4⟩)
          have hx : ¬ (((t[i]'(by rw [HN.out]; exact hlt)).toNat : Int) = 10) := by
            have : t[i]'(by rw [HN.out]; exact hlt) = t.data.toList[i] := by rw [Array.getElem_toList]; rfl
            rw [this]
            intro e
            apply hc
            have e2 : (t.data.toList[i]).toNat = (10 : UInt8).toNat := by
              show _ = 10
              omega
            exact UInt8.toNat_inj.1 e2
          clear h5 h4
          go_wp2_with fail
          exact ⟨⟨fr, i + 1, D, rfl, by go_num, by omega, HO, HF, Lib.hid (by have := HD.out; omega), HN2, HB⟩, by show n + 1 - (i + 1) < n + 1 - i; omega⟩
      · have ki2 : ¬ ((i : Int) < (n : Int)) := by omega
        have hseg : segs (t.data.toList.drop fr) = (t.data.toList.drop fr).take (i - fr) :: [] := seg_last t.data.toList fr i n HLL.out h1 (by omega) h3
        have hex := extract_list t fr i h1 (by rw [HN.out]; omega)
        obtain ⟨s, hs⟩ : ∃ s, t.extract fr i = s := ⟨_, rfl⟩
        rw [hs] at hex
        have hsz : s.size ≤ 4096 := by rw [← hs, ByteArray.size_extract, HN.out]; omega
        rw [hseg, ← hex] at h4
        have hseg2 := h4
        have HLI := Lib.hid (HLN.out s wr hsz)
        have hf9 := lineE_len s
        have hal := allL_snoc D s
        have hfa := firstBad_app D s (([] : List (List UInt8)).map (fun x : List UInt8 => (⟨x.toArray⟩ : ByteArray))) HF.out
        have hfs := firstBad_snoc D s HF.out
        have hlm := linesT_more t D s _ h4
        obtain ⟨c, hc9⟩ : ∃ c, (lineE s).1 = c := ⟨_, rfl⟩
        obtain ⟨l, hl9⟩ : ∃ l, (lineE s).2 = l := ⟨_, rfl⟩
        rw [hc9, hl9] at HLI
        rw [hc9] at hfa hfs
        rw [hl9] at hal hf9
        have hfr := congrArg firstBad hlm
        have HS2 : Hid (True) := Lib.hid trivial
        have HS3 : Hid ((i + 1) ≤ i + 1 ∧ i + 1 ≤ n ∧ (10 : UInt8) ∉ (t.data.toList.drop (i + 1)).take (i + 1 - (i + 1)) ∧ segs t.data.toList = (D ++ [s]).map (·.data.toList) ++ segs (t.data.toList.drop (i + 1)) ∨ i + 1 = n + 1 ∧ segs t.data.toList = (D ++ [s]).map (·.data.toList)) := Lib.hid (.inr ⟨by omega, by rw [List.map_append, hseg2]; rfl⟩)
        have HAL := Lib.hid hal
        have HFA := Lib.hid hfa
        have HFS := Lib.hid hfs
        have HFR := Lib.hid hfr
        have HD2 : Hid ((D ++ [s]).length ≤ i + 1) := Lib.hid (by rw [List.length_append]; have := HD.out; simp; omega)
        obtain ⟨xs, hxs⟩ : ∃ xs, allL D = xs := ⟨_, rfl⟩
        have hxl : xs.length ≤ 9 * D.length := by rw [← hxs]; exact allL_len D
        rw [hxs] at HO HAL
        have HXL : Hid (xs.length ≤ 100000) := Lib.hid (by have := HD.out; omega)
        have HF9 := Lib.hid hf9
        clear hseg hex hsz h4 hseg2 hal hfa hfs hlm hc9 hl9 hfr hxs hxl h3 hf9
        by_cases hc0 : c = 0
        · subst hc0
          have HF3 := Lib.hid (HFS.out rfl)
          clear HFA HFR HFS
          go_wp2_with fail
          refine HLI.out.mono ?_
          rintro e w2 ⟨vL, rfl, hOL, hBL⟩
          have HO2 := Lib.hid (Oct.Own.below HO.out hBL)
          have HB2 := Lib.hid (HB.out.trans (hBL.mono HB.out.size))
          obtain ⟨A, cc, rfl, hSr⟩ := Oct.Own.src hOL
          have HSr := Lib.hid hSr
          obtain ⟨len, hlen⟩ : ∃ len, l.length = len := ⟨_, rfl⟩
          rw [hlen]
          have HLE := Lib.hid hlen
          clear hOL hBL hSr hlen HO HB HLI
          go_wp2_with (at_builtin; refine Oct.wpList_app rfl (.tmp 44) (.tmp 45) 22 22 rfl Tryd.underlying22 Tryd.underlying22 w.heap.size u4 xs l rfl HO2.out A len cc rfl HLE.out.symm HSr.out ?c1 HB2.out.size ?_)
          case c1 =>
            have h1 := HXL.out
            have h2 := HF9.out
            omega
          intro v2 w3 hO3 hG3 _
          have HO3 : Hid (Oct.Own w3 w.heap.size v2 (allL (D ++ [s]))) := Lib.hid (by rw [HAL.out]; exact hO3)
          have HB3 := Lib.hid (HB2.out.grown hG3 HB2.out.size (fun j hj => (World.ownsRow.lt HO2.out j hj).1))
          clear hO3 hG3 HO2 HB2 HLE HSr HAL
          go_wp2_with fail
          exact ⟨⟨i + 1, i + 1, D ++ [s], by go_num, by go_num, by omega, HO3, HF3, HD2, HS3, HB3⟩, by show n + 1 - (i + 1) < n + 1 - i; omega⟩
        · have HR2 : Hid (R = (c, [])) := Lib.hid (by rw [HR.out, HFR.out, HFA.out hc0, if_pos hc0])
          clear HFA HFR HFS HS3
          go_wp2_with fail
          refine HLI.out.mono ?_
          rintro e w2 ⟨vL, rfl, hOL, hBL⟩
          have HB2 := Lib.hid (HB.out.trans (hBL.mono HB.out.size))
          clear hOL hBL HO HB HLI
          go_wp2_with fail
          go_ret2
          rw [HR2.out]
          exact ⟨_, rfl, Oct.Own.nil _ _, HB2.out⟩
    · have ki : ¬ ((i : Int) ≤ (n : Int)) := by omega
      have hsd : segs t.data.toList = D.map (·.data.toList) := by
        rcases HS.out with h | h
        · omega
        · exact h.2
      have hlt := linesT_of t D hsd
      rw [hlt] at HR
      have hR := HR.out
      rw [HF.out, if_neg (by simp)] at hR
      obtain ⟨A, c, hv, hP⟩ := own_pg HO.out (allL_bytes D)
      subst hv
      obtain ⟨y, hy⟩ : ∃ y, allL D = y := ⟨_, rfl⟩
      rw [hy] at hP hR HO ⊢
      obtain ⟨m, hm⟩ : ∃ m, y.length = m := ⟨_, rfl⟩
      rw [hm] at hP HO ⊢
      obtain ⟨CK, hCK⟩ : ∃ x, (ordsV y).1 = x := ⟨_, rfl⟩
      have HC := Lib.hid (rcheck_any A m c y wr (Lib.hid hP))
      rw [hCK] at HC hR
      have HR2 := Lib.hid hR
      clear hP hy hm hCK hR hlt hsd HS
      go_wp2_with fail
      refine HC.out.mono ?_
      rintro e w2 ⟨rfl, hB2⟩
      have HO2 := Lib.hid (Oct.Own.below HO.out hB2)
      have HB2 := Lib.hid (HB.out.trans (hB2.mono HB.out.size))
      clear hB2 HO HB HC
      by_cases hc0 : CK = 0
      · have HR3 : Hid (R = (0, y)) := Lib.hid (by rw [HR2.out, if_neg (by simpa using hc0)])
        subst hc0
        go_wp2_with fail
        go_ret2
        rw [HR3.out]
        exact ⟨_, rfl, HO2.out, HB2.out⟩
      · have HR3 : Hid (R = (CK, [])) := Lib.hid (by rw [HR2.out, if_pos hc0])
        go_wp2_with fail
        go_ret2
        rw [HR3.out]
        exact ⟨_, rfl, Oct.Own.nil _ _, HB2.out⟩

set_option maxRecDepth 100000 in
set_option maxHeartbeats 4000000 in
theorem rparse_any (HLN : Hid (∀ (s : ByteArray) (w : World), s.size ≤ 4096 → Calls Tryd.prog 36 #[.string s] w (ParPost w (lineE s).1 (lineE s).2))) (t : ByteArray) (w : World) :
    Calls Tryd.prog 17 #[.string t] w (ParPost w (parseV t).1 (parseV t).2) := by
  by_cases hsz : 4096 < t.size
  · have hpv : parseV t = (8, []) := by unfold parseV; rw [if_pos hsz]
    rw [hpv]
    have d1 : (4096 : Int) < (t.size : Int) := by omega
    go_enter Tryd.func17, Tryd.ntmps17
    go_wp2_with fail
    go_ret2
    exact ⟨_, rfl, Oct.Own.nil _ _, Below.refl _ _⟩
  · by_cases hne : t = ⟨#[]⟩
    · subst hne
      have hpv : parseV ⟨#[]⟩ = (0, []) := rfl
      rw [hpv]
      obtain ⟨A, c, hv, hP⟩ := own_pg (Oct.Own.nil w w.heap.size) (by simp)
      have HC := Lib.hid (rcheck_any A 0 c [] w (Lib.hid hP))
      rw [show (ordsV []).1 = 0 by rw [ordsV_nil]] at HC
      injection hv with h1 h2 h3
      subst h1 h3
      clear hP h2
      go_enter Tryd.func17, Tryd.ntmps17
      go_wp2_with fail
      go_loopw [4, 6] (fun v b wr => v = .slice none 0 0 ∧ b = .int .i64 0 ∧ wr = w) (fun _ _ _ => 0)
      case atStart => exact ⟨rfl, rfl, rfl⟩
      case round =>
        obtain ⟨rfl, rfl, rfl⟩ := hrel
        go_wp2_with fail
        refine HC.out.mono ?_
        rintro e w2 ⟨rfl, hB2⟩
        have HB2 := Lib.hid hB2
        clear hB2 HC
        go_wp2_with fail
        go_ret2
        exact ⟨_, rfl, Oct.Own.nil _ _, HB2.out⟩
    · exact rparse_lines HLN t w hsz hne
end Go.Proofs.YtkilajobnlagbaaDoor
