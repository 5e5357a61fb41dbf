/-
  Parse 16 of any text.
-/
import Derived.Test.YtkilajobnlagbaaDoorCodED
namespace Go.Proofs.YtkilajobnlagbaaDoor
open Go.RowKit
set_option linter.unusedVariables false

def linesT (t : ByteArray) : List ByteArray := Lib.splitB ⟨#[10]⟩ 0 (Lib.countB t ⟨#[10]⟩) t
def firstBad : List ByteArray → Int
  | [] => 0
  | s :: r => if (lineE s).1 ≠ 0 then (lineE s).1 else firstBad r
def allL (L : List ByteArray) : List Int := (L.map fun s => (lineE s).2).flatten
/-- What a text is parsed as: an error and a program. -/
def parseV (t : ByteArray) : Int × List Int :=
  if 4096 < t.size then (8, []) else if t = ⟨#[]⟩ then (0, []) else
  if firstBad (linesT t) ≠ 0 then (firstBad (linesT t), []) else
  if (ordsV (allL (linesT t))).1 ≠ 0 then ((ordsV (allL (linesT t))).1, []) else (0, allL (linesT t))
theorem firstBad_none : ∀ (L : List ByteArray), (∀ i, i < L.length → (lineE (L.getD i ⟨#[]⟩)).1 = 0) → firstBad L = 0
  | [], _ => rfl
  | s :: r, h => by
    have h0 := h 0 (by simp)
    unfold firstBad
    rw [if_neg (by simpa using h0)]
    exact firstBad_none r (fun i hi => by have := h (i + 1) (by simp; omega); simpa using this)
theorem firstBad_at : ∀ (L : List ByteArray) (k : Nat), k < L.length → (∀ i, i < k → (lineE (L.getD i ⟨#[]⟩)).1 = 0) → (lineE (L.getD k ⟨#[]⟩)).1 ≠ 0 → firstBad L = (lineE (L.getD k ⟨#[]⟩)).1
  | [], k, hk, _, _ => by simp at hk
  | s :: r, 0, _, _, h => by
    unfold firstBad
    rw [if_pos (by simpa using h)]
    rfl
  | s :: r, k + 1, hk, hb, h => by
    have h0 := hb 0 (by omega)
    unfold firstBad
    rw [if_neg (by simpa using h0)]
    exact firstBad_at r k (by simpa using hk) (fun i hi => by have := hb (i + 1) (by omega); simpa using this) (by simpa using h)
theorem splitB_le (sep : ByteArray) : ∀ (k : Nat) (s : ByteArray), ∀ x ∈ Lib.splitB sep 0 k s, x.size ≤ s.size
  | 0, s, x, hx => by
    rw [Lib.splitB_zero, List.mem_singleton] at hx
    rw [hx]
    exact Nat.le_refl _
  | k + 1, s, x, hx => by
    unfold Lib.splitB at hx
    split at hx
    · rw [List.mem_singleton] at hx
      rw [hx]
      exact Nat.le_refl _
    · rcases List.mem_cons.1 hx with rfl | hx
      · rw [ByteArray.size_extract]
        omega
      · have := splitB_le sep k _ x hx
        rw [ByteArray.size_extract] at this
        omega
theorem lineE_bytes (s : ByteArray) : ∀ b ∈ (lineE s).2, 0 ≤ b ∧ b < 256 := by
  unfold lineE
  by_cases h : (opF (lnName s) 18 0).2 = false
  · rw [if_pos h]; simp
  rw [if_neg h]
  obtain ⟨op, ho, _, hop, _⟩ := opF_some (lnName s) 18 0 (by simpa using h)
  rw [ho]
  split
  · simp
  · split
    · intro b hb
      rw [List.mem_singleton] at hb
      subst hb
      omega
    · split
      · rename_i u hu
        have hfi := fol_in ((op : Int).toNat)
        have h3 : 2 ^ (8 * fol ((op : Int).toNat)) - 1 ≤ 18446744073709551615 := by
          rcases hfi with h | h | h | h <;> rw [h] <;> decide
        have hu2 := parseB_le hu
        split
        · intro b hb
          rcases List.mem_cons.1 hb with rfl | hb
          · omega
          · exact Oct.be8_bytes (u : Int) (by omega) (by omega) b (List.mem_of_mem_drop hb)
        · simp
      · simp
theorem lineE_len (s : ByteArray) : (lineE s).2.length ≤ 9 := by
  have hl8 : ∀ u : Int, (Oct.be8 u).length = 8 := by
    intro u
    have := Oct.be8s_length [u]
    rw [Oct.be8s_one] at this
    exact this
  unfold lineE
  split
  · simp
  · split
    · simp
    · split
      · simp
      · split
        · split
          · simp only [List.length_cons, List.length_drop, hl8]; omega
          · simp
        · simp
theorem allL_len : ∀ (L : List ByteArray), (allL L).length ≤ 9 * L.length
  | [] => by simp [allL]
  | s :: r => by
    have h1 := lineE_len s
    have h2 := allL_len r
    unfold allL at h2 ⊢
    simp only [List.map_cons, List.flatten_cons, List.length_append, List.length_cons]
    omega
theorem allL_bytes (L : List ByteArray) : ∀ b ∈ allL L, 0 ≤ b ∧ b < 256 := by
  intro b hb
  obtain ⟨l, hl, hb⟩ := List.mem_flatten.1 hb
  obtain ⟨s, _, rfl⟩ := List.mem_map.1 hl
  exact lineE_bytes s b hb

set_option maxRecDepth 100000 in
set_option maxHeartbeats 4000000 in
theorem parse_lines (t : ByteArray) (w : World) (HM : Hid (MCell w)) (HT : Hid (KTab w)) (HPT : Hid (PTab w)) (HE3 : Hid (ECell 3 w)) (HE4 : Hid (ECell 4 w)) (hsz : ¬ 4096 < t.size) (hne : t ≠ ⟨#[]⟩) :
    Calls Tryd.prog 16 #[.string t] w (ParPost w (parseV t).1 (parseV t).2) := by
  have hpv : parseV t = if firstBad (linesT t) ≠ 0 then (firstBad (linesT t), []) else if (ordsV (allL (linesT t))).1 ≠ 0 then ((ordsV (allL (linesT t))).1, []) else (0, allL (linesT t)) := by
    unfold parseV
    rw [if_neg hsz, if_neg hne]
  obtain ⟨m, hm⟩ := HM.out
  have hsp := Tryd.strings_Split t ⟨#[10]⟩ m w (by omega) hm (by decide)
  have hlen : (linesT t).length = Lib.countB t ⟨#[10]⟩ + 1 := Lib.splitB_all _ (by decide) 0 _ t rfl
  have hcnt : Lib.countB t ⟨#[10]⟩ ≤ t.size := Lib.countB_le _ (by decide) _ _ (Nat.le_refl _)
  have HLZ : Hid (∀ x ∈ linesT t, x.size ≤ 4096) := Lib.hid (fun x hx => by have := splitB_le _ _ _ x hx; omega)
  rw [show Lib.splitB ⟨#[10]⟩ 0 (Lib.countB t ⟨#[10]⟩) t = linesT t from rfl, ← hlen] at hsp
  obtain ⟨L, hL⟩ : ∃ x, linesT t = x := ⟨_, rfl⟩
  rw [hL] at hsp HLZ hlen hpv
  rw [hpv]
  obtain ⟨bs, hbs⟩ : ∃ x, (L.map fun s => (lineE s).2) = x := ⟨_, rfl⟩
  have hbl : bs.length = L.length := by rw [← hbs, List.length_map]
  have hbg : ∀ i, i < L.length → bs.getD i [] = (lineE (L.getD i ⟨#[]⟩)).2 := by
    intro i hi
    rw [← hbs]
    simp [List.getD, hi]
  have hal : allL L = bs.flatten := by rw [← hbs]; rfl
  have hbytes : ∀ b ∈ bs.flatten, 0 ≤ b ∧ b < 256 := by rw [← hal]; exact allL_bytes L
  have htot : bs.flatten.length ≤ 1000000 := by rw [← hal]; have := allL_len L; omega
  rw [hal]
  clear hal hbs hpv hL
  have HS := Lib.hid hsp
  have HBG := Lib.hid hbg
  have HBY := Lib.hid hbytes
  have HTO := Lib.hid htot
  have HBL := Lib.hid hbl
  have HN1 : Hid (1 ≤ L.length) := Lib.hid (by omega)
  have HN2 : Hid (L.length ≤ 4097) := Lib.hid (by omega)
  have HBA : Hid (∀ k, k < L.length → (∀ i, i < k → (lineE (L.getD i ⟨#[]⟩)).1 = 0) → (lineE (L.getD k ⟨#[]⟩)).1 ≠ 0 → firstBad L = (lineE (L.getD k ⟨#[]⟩)).1) := Lib.hid (fun k => firstBad_at L k)
  have HBN : Hid ((∀ i, i < L.length → (lineE (L.getD i ⟨#[]⟩)).1 = 0) → firstBad L = 0) := Lib.hid (firstBad_none L)
  obtain ⟨n, hnn⟩ : ∃ n, L.length = n := ⟨_, rfl⟩
  rw [hnn] at HS HBG HBL HN1 HN2 HBA HBN
  have HLN := Lib.hid hnn
  obtain ⟨FB, hFB⟩ : ∃ x, firstBad L = x := ⟨_, rfl⟩
  rw [hFB] at HBA HBN ⊢
  obtain ⟨CK, hCK⟩ : ∃ x, (ordsV bs.flatten).1 = x := ⟨_, rfl⟩
  rw [hCK]
  have HC := Lib.hid hCK
  obtain ⟨R, hR⟩ : ∃ x : Int × List Int, (if FB ≠ 0 then (FB, []) else if CK ≠ 0 then (CK, []) else (0, bs.flatten)) = x := ⟨_, rfl⟩
  rw [hR]
  have HR := Lib.hid hR
  have d1 : ¬ ((4096 : Int) < (t.size : Int)) := by omega
  have d4 : t.toList.isEmpty = false := by
    rw [ByteArray.toList_eq]
    cases h : t.data.toList with
    | nil => exact absurd (by cases t with | mk d => cases d with | mk l => simp at h; subst h; rfl) hne
    | cons a b => rfl
  clear hm hsp hbg hbytes htot hbl hnn hsz hne hlen hcnt hFB hCK hR
  go_enter Tryd.func16, Tryd.ntmps16
  go_wp2_with fail
  refine HS.out.mono ?_
  rintro e w1 ⟨rfl, rfl⟩
  have G1 : Hid (Blk (w.alloc (.cells (L.map Value.string).toArray 9)) w.heap.size 9 (L.map Value.string)) := Lib.hid (Blk.new w 9 (L.map Value.string))
  have B1 : Hid (Below w.heap.size w (w.alloc (.cells (L.map Value.string).toArray 9))) := Lib.hid (up1 w _)
  generalize w.alloc (.cells (L.map Value.string).toArray 9) = w1 at G1 B1 ⊢
  clear HS d1 d4
  go_wp2_with fail
  go_loopw [4, 18] (fun v t wr => ∃ k : Nat, t = .int .i64 k ∧ k ≤ n ∧ Hid (∀ i, i < k → (lineE (L.getD i ⟨#[]⟩)).1 = 0) ∧ Hid (Oct.Own wr w.heap.size v (bs.take k).flatten) ∧ Hid (Blk wr w.heap.size 9 (L.map Value.string)) ∧ Hid (Below w.heap.size w wr)) (fun _ t _ => n - (intOf t).toNat)
  case atStart => exact ⟨0, rfl, by omega, Lib.hid (fun i hi => absurd hi (Nat.not_lt_zero _)), Lib.hid (Oct.Own.nil _ _), G1, B1⟩
  case round =>
    obtain ⟨k, rfl, hk, HOK, HO, HG, HB⟩ := hrel
    have HMr : Hid (MCell wr) := Lib.hid (HM.out.below HB.out)
    have HTr : Hid (KTab wr) := Lib.hid (HT.out.below HB.out HT.out.lt)
    have HPr : Hid (PTab wr) := Lib.hid (PTab.below HPT.out HB.out)
    have HE3r : Hid (ECell 3 wr) := Lib.hid (HE3.out.below HB.out)
    have HE4r : Hid (ECell 4 wr) := Lib.hid (HE4.out.below HB.out)
    have k0 : (0 : Int) ≤ (k : Int) := Int.natCast_nonneg _
    by_cases hlt : k < n
    · have kn : (k : Int) < (n : Int) := by omega
      have kb : (k : Int) < 4097 := by have := HN2.out; omega
      have hcell := HG.out.cell k
      rw [List.getElem?_map, List.getElem?_eq_getElem (by rw [HLN.out]; exact hlt)] at hcell
      have hgd : L.getD k ⟨#[]⟩ = L[k]'(by rw [HLN.out]; exact hlt) := by simp [List.getD, HLN.out, hlt]
      have hmem : L.getD k ⟨#[]⟩ ∈ L := by rw [hgd]; exact List.getElem_mem _
      rw [← hgd] at hcell
      have hcell2 : wr.cell? ⟨w.heap.size, k, none⟩ = some (.string (L.getD k ⟨#[]⟩)) := hcell
      have hline := pline_any (L.getD k ⟨#[]⟩) wr (by have := HLZ.out _ hmem; omega) HMr HTr HPr HE3r HE4r
      have hft := flat_take bs k (by rw [HBL.out]; exact hlt)
      have hfl := flat_le bs k (by rw [HBL.out]; exact hlt)
      have hba := HBA.out k hlt HOK.out
      have hzz := HOK.out
      rw [HBG.out k hlt] at hft hfl
      have HSt : Hid (∀ c, (lineE (L.getD k ⟨#[]⟩)).1 = c → c = 0 → ∀ i, i < k + 1 → (lineE (L.getD i ⟨#[]⟩)).1 = 0) := Lib.hid (fun c h1 h2 i hi => by
        rcases Nat.lt_or_ge i k with h | h
        · exact hzz i h
        · have : i = k := by omega
          subst this
          rw [h1, h2])
      clear hzz hgd hmem
      have HC2 := Lib.hid hcell2
      obtain ⟨c, hc⟩ : ∃ c, (lineE (L.getD k ⟨#[]⟩)).1 = c := ⟨_, rfl⟩
      have hst := HSt.out c hc
      rw [hc] at hba hline
      clear hc HSt hcell hcell2
      have hcell2 := HC2.out
      clear HC2
      obtain ⟨s, hs⟩ : ∃ s, L.getD k ⟨#[]⟩ = s := ⟨_, rfl⟩
      rw [hs] at hcell2 hline hft hfl
      obtain ⟨l, hl⟩ : ∃ l, (lineE s).2 = l := ⟨_, rfl⟩
      rw [hl] at hline hft hfl
      obtain ⟨xs, hxs⟩ : ∃ xs, (bs.take k).flatten = xs := ⟨_, rfl⟩
      rw [hxs] at HO hft hfl
      have HLI := Lib.hid hline
      have HFT := Lib.hid hft
      have HFL := Lib.hid hfl
      have HBa := Lib.hid hba
      have HSt := Lib.hid hst
      clear hline hft hfl hs hl hxs hba hst HMr HTr HPr HE3r HE4r
      by_cases hc0 : c = 0
      · subst hc0
        have HOK1 := Lib.hid (HSt.out rfl)
        clear HSt HBa HOK
        go_wp2_with fail
        refine HLI.out.mono ?_
        rintro e w2 ⟨vL, rfl, hOL, hBL⟩
        have HO2 := Lib.hid (Oct.Own.below HO.out hBL)
        have HG2 := Lib.hid (HG.out.below hBL HG.out.lt)
        have HB2 := Lib.hid (HB.out.trans (hBL.mono HB.out.size))
        obtain ⟨A, c, rfl, hS⟩ := Oct.Own.src hOL
        have HS := Lib.hid hS
        obtain ⟨len, hlen⟩ : ∃ len, l.length = len := ⟨_, rfl⟩
        rw [hlen]
        have HLE := Lib.hid hlen
        clear hOL hBL hS hlen HO HG HB hcell2 HLI
        go_wp2_with (at_builtin; refine Oct.wpList_app rfl (.tmp 30) (.tmp 31) 22 22 rfl Tryd.underlying22 Tryd.underlying22 w.heap.size u4 xs l rfl HO2.out A len c rfl HLE.out.symm HS.out ?c1 HB2.out.size ?_)
        case c1 =>
          have h1 := HFL.out
          have h2 := HTO.out
          have h3 := HLE.out
          omega
        intro v2 w3 hO3 hG3 _
        have HO3 : Hid (Oct.Own w3 w.heap.size v2 (bs.take (k + 1)).flatten) := Lib.hid (by rw [← HFT.out]; exact hO3)
        have HG3 := Lib.hid (HG2.out.grown hG3 (own_ne9 HG2.out HO2.out))
        have HB3 := Lib.hid (HB2.out.grown hG3 HB2.out.size (fun j hj => (World.ownsRow.lt HO2.out j hj).1))
        clear hO3 hG3 HO2 HG2 HB2 HFT HFL HLE HS
        go_wp2_with fail
        exact ⟨⟨k + 1, rfl, by omega, HOK1, HO3, HG3, HB3⟩, by show n - (k + 1) < n - k; omega⟩
      · have HR2 : Hid (R = (c, [])) := Lib.hid (by rw [← HR.out, HBa.out hc0, if_pos hc0])
        clear HSt HBa HOK HR
        go_wp2_with fail
        refine HLI.out.mono ?_
        rintro e w2 ⟨vL, rfl, hOL, hBL⟩
        have HB2 := Lib.hid (HB.out.trans (hBL.mono HB.out.size))
        clear hOL hBL HO HG HB hcell2 HLI
        go_wp2_with fail
        go_ret2
        rw [HR2.out]
        exact ⟨_, rfl, Oct.Own.nil _ _, HB2.out⟩
    · have kn : ¬ ((k : Int) < (n : Int)) := by omega
      have hkn : k = n := by omega
      subst hkn
      have hall : (bs.take k).flatten = bs.flatten := by rw [List.take_of_length_le (by rw [HBL.out]; exact Nat.le_refl _)]
      rw [hall] at HO
      have hfb := HBN.out HOK.out
      obtain ⟨A, c, hv, hP⟩ := own_pg HO.out HBY.out
      subst hv
      obtain ⟨len, hlen⟩ : ∃ x, bs.flatten.length = x := ⟨_, rfl⟩
      rw [hlen] at hP HO ⊢
      have HP := Lib.hid hP
      have HFB := Lib.hid hfb
      clear hfb hlen hP hlt hk hall HG HMr HPr HE3r HE4r HOK
      go_wp2_with fail
      refine (check_any A len c bs.flatten wr HP HTr).mono ?_
      rintro e w2 ⟨rfl, hB2⟩
      rw [HC.out]
      have HO2 := Lib.hid (Oct.Own.below HO.out hB2)
      have HB2 := Lib.hid (HB.out.trans (hB2.mono HB.out.size))
      clear hB2 HO HB HP HTr
      by_cases hc0 : CK = 0
      · have HR2 : Hid (R = (0, bs.flatten)) := Lib.hid (by rw [← HR.out, HFB.out, if_neg (by simp), if_neg (by simpa using hc0)])
        clear HFB HR HC
        subst hc0
        go_wp2_with fail
        go_ret2
        rw [HR2.out]
        exact ⟨_, rfl, HO2.out, HB2.out⟩
      · have HR2 : Hid (R = (CK, [])) := Lib.hid (by rw [← HR.out, HFB.out, if_neg (by simp), if_pos hc0])
        clear HFB HR HC
        go_wp2_with fail
        go_ret2
        rw [HR2.out]
        exact ⟨_, rfl, Oct.Own.nil _ _, HB2.out⟩

set_option maxRecDepth 100000 in
set_option maxHeartbeats 4000000 in
theorem parse_any (t : ByteArray) (w : World) (HM : Hid (MCell w)) (HT : Hid (KTab w)) (HPT : Hid (PTab w)) (HE3 : Hid (ECell 3 w)) (HE4 : Hid (ECell 4 w)) :
    Calls Tryd.prog 16 #[.string t] w (ParPost w (parseV t).1 (parseV t).2) := by
  by_cases hsz : 4096 < t.size
  · have hpv : parseV t = (8, []) := by unfold parseV; rw [if_pos hsz]
    rw [hpv]
    have d1 : (4096 : Int) < (t.size : Int) := by omega
    go_enter Tryd.func16, Tryd.ntmps16
    go_wp2_with fail
    go_ret2
    exact ⟨_, rfl, Oct.Own.nil _ _, Below.refl _ _⟩
  · by_cases hne : t = ⟨#[]⟩
    · subst hne
      have hpv : parseV ⟨#[]⟩ = (0, []) := rfl
      rw [hpv]
      go_enter Tryd.func16, Tryd.ntmps16
      go_wp2_with fail
      go_ret2
      exact ⟨_, rfl, Oct.Own.nil _ _, Below.refl _ _⟩
    · exact parse_lines t w HM HT HPT HE3 HE4 hsz hne
end Go.Proofs.YtkilajobnlagbaaDoor
