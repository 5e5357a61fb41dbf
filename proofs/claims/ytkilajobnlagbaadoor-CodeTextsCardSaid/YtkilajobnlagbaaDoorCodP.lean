/-
  Parse: a text all of whose lines tell orders.
-/
import Derived.Test.YtkilajobnlagbaaDoorCodN
namespace Go.Proofs.YtkilajobnlagbaaDoor
open Go.RowKit
set_option linter.unusedVariables false

theorem own_ne9 {w : World} {g b n : Nat} {v : Value} {xs cs : List Value} (hB : Blk w g 9 cs) (hO : w.ownsRow b 5 1 v n xs) : some g ≠ v.ownBlock := by
  rcases hO.2 with ⟨rfl, _⟩ | ⟨g', cap, cur, rfl, _, hg, _⟩
  · simp [Value.ownBlock]
  · intro e
    injection e with e
    have e' : g = g' := e
    subst e'
    unfold Blk at hB
    rw [hB] at hg
    injection hg with hg
    injection hg with _ hg
    cases hg
theorem own_pg {w : World} {base : Nat} {v : Value} {l : List Int} (h : Oct.Own w base v l) (hb : ∀ b ∈ l, 0 ≤ b ∧ b < 256) : ∃ A c, v = .slice A l.length c ∧ Pg w A l.length c l := by
  have hc : ∃ A c, v = .slice A l.length c ∧ l.length ≤ c ∧ c ≤ 9223372036854775807 := by
    rcases h.2 with ⟨rfl, h0⟩ | ⟨g', c', cur, rfl, _, _, h1, h2, _⟩
    · exact ⟨none, 0, by rw [h0], by omega, by omega⟩
    · exact ⟨_, c', rfl, h1, by unfold maxLen at h2; omega⟩
  obtain ⟨A, c, rfl, hS⟩ := Oct.Own.src h
  obtain ⟨A', c', e, h1, h2⟩ := hc
  injection e with e1 e2 e3
  subst e3
  exact ⟨A, c, rfl, ⟨rfl, h1, h2, hb, hS⟩⟩
theorem flat_take (bs : List (List Int)) (k : Nat) (h : k < bs.length) : (bs.take k).flatten ++ bs.getD k [] = (bs.take (k + 1)).flatten := by
  rw [List.take_add_one, List.getElem?_eq_getElem h, List.flatten_append]
  simp [List.getD, h]
theorem flat_le (bs : List (List Int)) (k : Nat) (h : k < bs.length) : (bs.take k).flatten.length + (bs.getD k []).length ≤ bs.flatten.length := by
  have := flat_take bs k h
  have h2 := congrArg List.length this
  rw [List.length_append] at h2
  rw [h2]
  have h3 : bs.flatten = (bs.take (k + 1)).flatten ++ (bs.drop (k + 1)).flatten := by rw [← List.flatten_append, List.take_append_drop]
  rw [h3, List.length_append]
  omega
def LineOk (s : ByteArray) (l : List Int) : Prop := ∀ W, Hid (MCell W) → Hid (KTab W) → Hid (PTab W) → Calls Tryd.prog 35 #[.string s] W (LnPost W l)

theorem MCell.below {w w' : World} (h : MCell w) (hB : Below w.heap.size w w') : MCell w' := by
  obtain ⟨m, hm⟩ := h
  exact ⟨m, (hB.cell (p := ⟨2, 0, none⟩) (World.block_lt_of_cell? w _ hm)).trans hm⟩

set_option maxRecDepth 100000 in
set_option maxHeartbeats 4000000 in
theorem parse_ok (t : ByteArray) (L : List ByteArray) (bs : List (List Int)) (w : World) (HM : Hid (MCell w)) (HT : Hid (KTab w)) (HPT : Hid (PTab w)) (hsz : t.size ≤ 4096) (hne : t ≠ ⟨#[]⟩)
    (hL : Lib.splitB ⟨#[10]⟩ 0 (Lib.countB t ⟨#[10]⟩) t = L) (hn : Lib.countB t ⟨#[10]⟩ + 1 = L.length) (hbl : bs.length = L.length) (hok : ∀ i, i < L.length → LineOk (L.getD i ⟨#[]⟩) (bs.getD i []))
    (hchk : (ordsV bs.flatten).1 = 0) (hbytes : ∀ b ∈ bs.flatten, 0 ≤ b ∧ b < 256) (htot : bs.flatten.length ≤ 1000000) :
    Calls Tryd.prog 16 #[.string t] w (LnPost w bs.flatten) := by
  obtain ⟨m, hm⟩ := HM.out
  have hsp := Tryd.strings_Split t ⟨#[10]⟩ m w (by omega) hm (by decide)
  rw [hL, hn] at hsp
  have HS := Lib.hid hsp
  have HOK := Lib.hid hok
  have HC := Lib.hid hchk
  have HBY := Lib.hid hbytes
  have HTO := Lib.hid htot
  have HBL := Lib.hid hbl
  have HN1 : Hid (1 ≤ L.length) := Lib.hid (by omega)
  have HN2 : Hid (L.length ≤ 4097) := Lib.hid (by
    have : Lib.countB t ⟨#[10]⟩ ≤ t.size := Lib.countB_le _ (by decide) _ _ (Nat.le_refl _)
    omega)
  obtain ⟨n, hnn⟩ : ∃ n, L.length = n := ⟨_, rfl⟩
  rw [hnn] at HS HOK HBL HN1 HN2
  have HLN := Lib.hid hnn
  have d1 : ¬ ((4096 : Int) < (t.size : Int)) := by omega
  have d2 : ¬ (t = ⟨#[]⟩) := hne
  have d3 : ¬ (t.data.toList = []) := fun h => hne (by
    cases t with | mk d => cases d with | mk l => simp at h; subst h; rfl)
  have d4 : t.toList.isEmpty = false := by
    rw [ByteArray.toList_eq]
    cases h : t.data.toList with
    | nil => exact absurd h d3
    | cons a b => rfl
  clear hm hsp hok hchk hbytes htot hbl hnn hL hn hsz hne
  go_enter Tryd.func16, Tryd.ntmps16
  go_wp2_with fail
  refine HS.out.mono ?_
  rintro e w1 ⟨rfl, rfl⟩
  have G1 : Hid (Blk (w.alloc (.cells (L.map Value.string).toArray 9)) w.heap.size 9 (L.map Value.string)) := Lib.hid (Blk.new w 9 (L.map Value.string))
  have B1 : Hid (Below w.heap.size w (w.alloc (.cells (L.map Value.string).toArray 9))) := Lib.hid (up1 w _)
  generalize w.alloc (.cells (L.map Value.string).toArray 9) = w1 at G1 B1 ⊢
  clear HS d1 d2 d3 d4
  go_wp2_with fail
  go_loopw [4, 18] (fun v t wr => ∃ k : Nat, t = .int .i64 k ∧ k ≤ n ∧ Hid (Oct.Own wr w.heap.size v (bs.take k).flatten) ∧ Hid (Blk wr w.heap.size 9 (L.map Value.string)) ∧ Hid (Below w.heap.size w wr)) (fun _ t _ => n - (intOf t).toNat)
  case atStart => exact ⟨0, rfl, by omega, Lib.hid (Oct.Own.nil _ _), G1, B1⟩
  case round =>
    obtain ⟨k, rfl, hk, HO, HG, HB⟩ := hrel
    have HMr : Hid (MCell wr) := Lib.hid (HM.out.below HB.out)
    have HTr : Hid (KTab wr) := Lib.hid (HT.out.below HB.out HT.out.lt)
    have HPr : Hid (PTab wr) := Lib.hid (PTab.below HPT.out HB.out)
    have k0 : (0 : Int) ≤ (k : Int) := Int.natCast_nonneg _
    by_cases hlt : k < n
    · have kn : (k : Int) < (n : Int) := by omega
      have kb : (k : Int) < 4097 := by have := HN2.out; omega
      have hcell := HG.out.cell k
      rw [List.getElem?_map, List.getElem?_eq_getElem (by rw [HLN.out]; exact hlt)] at hcell
      have hgd : L.getD k ⟨#[]⟩ = L[k]'(by rw [HLN.out]; exact hlt) := by simp [List.getD, HLN.out, hlt]
      rw [← hgd] at hcell
      have hcell2 : wr.cell? ⟨w.heap.size, k, none⟩ = some (.string (L.getD k ⟨#[]⟩)) := hcell
      have hline := HOK.out k hlt wr HMr HTr HPr
      have hft := flat_take bs k (by rw [HBL.out]; exact hlt)
      have hfl := flat_le bs k (by rw [HBL.out]; exact hlt)
      obtain ⟨s, hs⟩ : ∃ s, L.getD k ⟨#[]⟩ = s := ⟨_, rfl⟩
      rw [hs] at hcell2 hline
      obtain ⟨l, hl⟩ : ∃ l, bs.getD k [] = l := ⟨_, rfl⟩
      rw [hl] at hline hft hfl
      obtain ⟨xs, hxs⟩ : ∃ xs, (bs.take k).flatten = xs := ⟨_, rfl⟩
      rw [hxs] at HO hft hfl
      have HLI := Lib.hid hline
      have HFT := Lib.hid hft
      have HFL := Lib.hid hfl
      clear hcell hgd hline hft hfl hs hl hxs HMr HTr HPr
      go_wp2_with fail
      refine HLI.out.mono ?_
      rintro e w2 ⟨vL, rfl, hOL, hBL⟩
      have HO2 := Lib.hid (Oct.Own.below HO.out hBL)
      have HG2 := Lib.hid (HG.out.below hBL HG.out.lt)
      have HB2 := Lib.hid (HB.out.trans (hBL.mono HB.out.size))
      obtain ⟨A, c, rfl, hS⟩ := Oct.Own.src hOL
      have HS := Lib.hid hS
      obtain ⟨len, hlen⟩ : ∃ len, l.length = len := ⟨_, rfl⟩
      rw [hlen]
      have HLE := Lib.hid hlen
      clear hOL hBL hS hlen HO HG HB hcell2 HLI
      go_wp2_with (at_builtin; refine Oct.wpList_app rfl (.tmp 30) (.tmp 31) 22 22 rfl Tryd.underlying22 Tryd.underlying22 w.heap.size u4 xs l rfl HO2.out A len c rfl HLE.out.symm HS.out ?c1 HB2.out.size ?_)
      case c1 =>
        have h1 := HFL.out
        have h2 := HTO.out
        have h3 := HLE.out
        omega
      intro v2 w3 hO3 hG3 _
      have HO3 : Hid (Oct.Own w3 w.heap.size v2 (bs.take (k + 1)).flatten) := Lib.hid (by rw [← HFT.out]; exact hO3)
      have HG3 := Lib.hid (HG2.out.grown hG3 (own_ne9 HG2.out HO2.out))
      have HB3 := Lib.hid (HB2.out.grown hG3 HB2.out.size (fun j hj => (World.ownsRow.lt HO2.out j hj).1))
      clear hO3 hG3 HO2 HG2 HB2 HFT HFL HLE HS
      go_wp2_with fail
      exact ⟨⟨k + 1, rfl, by omega, HO3, HG3, HB3⟩, by show n - (k + 1) < n - k; omega⟩
    · have kn : ¬ ((k : Int) < (n : Int)) := by omega
      have hkn : k = n := by omega
      subst hkn
      have hall : (bs.take k).flatten = bs.flatten := by rw [List.take_of_length_le (by rw [HBL.out]; exact Nat.le_refl _)]
      rw [hall] at HO
      obtain ⟨A, c, hv, hP⟩ := own_pg HO.out HBY.out
      subst hv
      obtain ⟨len, hlen⟩ : ∃ x, bs.flatten.length = x := ⟨_, rfl⟩
      rw [hlen] at hP HO ⊢
      have HP := Lib.hid hP
      clear hlen hP hlt hk hall HG HMr HPr
      go_wp2_with fail
      refine (check_any A len c bs.flatten wr HP HTr).mono ?_
      rintro e w2 ⟨rfl, hB2⟩
      rw [HC.out]
      have HO2 := Lib.hid (Oct.Own.below HO.out hB2)
      have HB2 := Lib.hid (HB.out.trans (hB2.mono HB.out.size))
      clear hB2 HO HB HP HTr
      go_wp2_with fail
      go_ret2
      exact ⟨_, rfl, HO2.out, HB2.out⟩
end Go.Proofs.YtkilajobnlagbaaDoor
