/-
  tollhouselaw07's From: a web as the document's, the same numbers; memory that was there stays as it was.
-/
import Derived.Test.YtnnimjaigciedaaM06
namespace Go.Proofs.Ytnnimjaigciedaa
open Go.RowKit
set_option linter.unusedVariables false
set_option linter.unusedSimpArgs false

theorem rspot_info : (Try.prog.info? 56).map (fun i => (i.zero, i.size, i.bytes)) = some (some (.agg #[.int .i64 0, .int .i64 0]), 2, 16) := by kernel_rfl
theorem redge_info : (Try.prog.info? 102).map (fun i => (i.zero, i.size, i.bytes)) = some (some (.agg #[.int .i64 0, .int .i64 0, .int .u64 0, .int .u64 0, .int .u64 0, .int .u64 0, .int .u64 0, .int .u64 0]), 8, 64) := by kernel_rfl

/-- A row of one's own, whatever its elements' type, as spots, as channels. -/
theorem own_cast {w : World} {base e s n c : Nat} {a : Option Addr} {l : Nat} {xs : List Value} (h : w.ownsRow base e s (.slice a n c) l xs) : ∀ (P : Prop), (∀ g cur, a = some ⟨g, 0, none⟩ → w.heap[g]? = some (.cells cur e (0, 0)) → cur.toList.take (l * s) = xs → g < w.heap.size → P) → (a = none → l = 0 → P) → P := by
  intro P h1 h2
  rcases h.2 with ⟨e1, h0⟩ | ⟨g, cap, cur, e1, _, hg, _, _, _, ht⟩
  · injection e1 with e1
    exact h2 e1 h0
  · injection e1 with e1
    refine h1 g cur e1 hg ht ?_
    rcases Nat.lt_or_ge g w.heap.size with h2 | h2
    · exact h2
    · rw [Array.getElem?_eq_none h2] at hg; cases hg

theorem SpotRow.own2 {w : World} {base e n c : Nat} {a : Option Addr} {l : List (Int × Int)} (h : w.ownsRow base e 2 (.slice a n c) l.length (flat l)) : SpotRow w a l := by
  refine own_cast h _ (fun g cur ha hg ht hlt => ?_) (fun _ h0 => .inl (List.eq_nil_of_length_eq_zero h0))
  have hB : Blk w g e cur.toList := hg
  refine .inr ⟨g, 0, ha, hlt, fun i hi => ?_⟩
  have key : ∀ j, j < l.length * 2 → ∀ u, (flat l)[j]? = some u → w.cell? ⟨g, j, none⟩ = some u := fun j hj u hu => by
    rw [hB.cell, ← hu, ← ht, List.getElem?_take, if_pos hj]
  have hlen := flat_length l
  obtain ⟨u, hu⟩ : ∃ u, (flat l)[i * 2]? = some u := ⟨_, List.getElem?_eq_getElem (by omega)⟩
  obtain ⟨v, hv⟩ : ∃ v, (flat l)[i * 2 + 1]? = some v := ⟨_, List.getElem?_eq_getElem (by omega)⟩
  have f1 := (flat_get l _ _ hu).2.1 (by omega)
  have f2 := (flat_get l _ _ hv).2.2 (by omega)
  rw [show i * 2 / 2 = i by omega] at f1
  rw [show (i * 2 + 1) / 2 = i by omega] at f2
  rw [Nat.zero_add, key _ (by omega) _ hu, key _ (by omega) _ hv, f1, f2]
  exact ⟨rfl, rfl⟩

theorem EdgeRow.own2 {w : World} {base e n c : Nat} {a : Option Addr} {l : List Ed} (h : w.ownsRow base e 8 (.slice a n c) l.length (eflat l)) : EdgeRow w a l := by
  refine own_cast h _ (fun g cur ha hg ht hlt => ?_) (fun _ h0 => .inl (List.eq_nil_of_length_eq_zero h0))
  have hB : Blk w g e cur.toList := hg
  refine .inr ⟨g, 0, ha, hlt, fun i hi j v hv => ?_⟩
  have hj : j < 8 := (List.getElem?_eq_some_iff.1 hv).1
  have h2 := cur_get (cur := cur.toList) (es := l) (el := l.length) (k := i) ht rfl hi rfl j hj
  rw [hB.cell, Nat.zero_add, h2]
  exact hv

theorem load54 (w : World) (g t : Nat) (a b : Option Addr) (l m c d : Nat) (h : Blk w g t [.slice a l c, .slice b m d]) : (loadVar 25 ⟨g, 0, none⟩).run Try.prog w = .ok (.agg #[.slice a l c, .slice b m d]) w := by
  have k1 := h.cell 0
  have k2 := h.cell 1
  simp only [List.getElem?_cons_zero, List.getElem?_cons_succ] at k1 k2
  go_simp
theorem result54 {fn : Func} {p : Tmp} (h : fn.results = #[.cell p 25]) (tmps : Array Value) (w : World) (g t : Nat) (a b : Option Addr) (l m c d : Nat) (hp : tmps.getD p undef = .pointer (some ⟨g, 0, none⟩)) (hP : Blk w g t [.slice a l c, .slice b m d]) :
    (results fn tmps).run Try.prog w = .ok (.agg #[.slice a l c, .slice b m d]) w := by
  have hp2 : tmps[p]?.getD undef = .pointer (some ⟨g, 0, none⟩) := by simpa using hp
  simp only [results, h]
  simp [hp2, asAddr, load54 w g t a b l m c d hP]

set_option maxRecDepth 100000 in
set_option maxHeartbeats 4000000 in
theorem wfrom_any (sa : Option Addr) (sl sc : Nat) (ea : Option Addr) (el ec : Nat) (sp : List (Int × Int)) (es : List Ed) (w : World) (hS : SpotRow w sa sp) (hE : EdgeRow w ea es) (hsl : sp.length = sl) (hel : es.length = el) (hs20 : sl ≤ 20) (he30 : el ≤ 30) :
    Calls Try.prog 32 #[.agg #[.slice sa sl sc, .slice ea el ec]] w fun r w' => ∃ sa' sc' ea' ec', r = .returned (.agg #[.slice sa' sl sc', .slice ea' el ec']) ∧ SpotRow w' sa' sp ∧ EdgeRow w' ea' es ∧ Below w.heap.size w w' := by
  have HS := Lib.hid hS
  have HE := Lib.hid hE
  have HSL := Lib.hid hsl
  have HEL := Lib.hid hel
  clear hS hE hsl hel
  go_enter Try.func32, Try.ntmps32
  go_wp2
  have B0 : Hid (Blk (((w.alloc (.cells #[.slice sa sl sc, .slice ea el ec] 31)).alloc (.cells #[.slice none 0 0, .slice none 0 0] 25)).alloc (.cells #[.slice none 0 0, .slice none 0 0] 25)) w.heap.size 31 [.slice sa sl sc, .slice ea el ec]) := Lib.hid (((Blk.mk_ rfl).alloc _).alloc _)
  have R0 : Hid (Blk (((w.alloc (.cells #[.slice sa sl sc, .slice ea el ec] 31)).alloc (.cells #[.slice none 0 0, .slice none 0 0] 25)).alloc (.cells #[.slice none 0 0, .slice none 0 0] 25)) (w.heap.size + 1) 25 [.slice none 0 0, .slice none 0 0]) := Lib.hid ((Blk.mk_ (by simp)).alloc _)
  have O0 : Hid (Blk (((w.alloc (.cells #[.slice sa sl sc, .slice ea el ec] 31)).alloc (.cells #[.slice none 0 0, .slice none 0 0] 25)).alloc (.cells #[.slice none 0 0, .slice none 0 0] 25)) (w.heap.size + 1 + 1) 25 [.slice none 0 0, .slice none 0 0]) := Lib.hid (Blk.mk_ (by simp))
  have HW : Hid (Below w.heap.size w (((w.alloc (.cells #[.slice sa sl sc, .slice ea el ec] 31)).alloc (.cells #[.slice none 0 0, .slice none 0 0] 25)).alloc (.cells #[.slice none 0 0, .slice none 0 0] 25))) := Lib.hid ((((Below.refl _ _).alloc (Nat.le_refl _) _).alloc (by simp) _).alloc (by simp; omega) _)
  generalize ((w.alloc (.cells #[.slice sa sl sc, .slice ea el ec] 31)).alloc (.cells #[.slice none 0 0, .slice none 0 0] 25)).alloc (.cells #[.slice none 0 0, .slice none 0 0] 25) = W at B0 R0 O0 HW ⊢
  have HWs : Hid (w.heap.size ≤ W.heap.size) := Lib.hid HW.out.size
  have hW3 : w.heap.size + 1 + 1 < W.heap.size := O0.out.lt
  go_loopw [5, 11] (fun _ i wr => ∃ (k : Nat) (tv : Value), k ≤ sl ∧ i = .int .i64 k ∧ Hid (Blk wr w.heap.size 31 [.slice sa sl sc, .slice ea el ec]) ∧ Hid (Blk wr (w.heap.size + 1) 25 [.slice none 0 0, .slice none 0 0]) ∧ Hid (Blk wr (w.heap.size + 1 + 1) 25 [tv, .slice none 0 0]) ∧ Hid (wr.ownsRow W.heap.size 56 2 tv k (flat (sp.take k))) ∧ Hid (Below w.heap.size w wr) ∧ W.heap.size ≤ wr.heap.size) (fun _ i _ => sl - (intOf i).toNat)
  case atStart => exact ⟨0, .slice none 0 0, Nat.zero_le _, rfl, B0, R0, O0, Lib.hid ⟨rfl, .inl ⟨rfl, rfl⟩⟩, HW, Nat.le_refl _⟩
  case round =>
    clear B0 R0 O0
    obtain ⟨k, tv, hk, rfl, B0, R0, O0, OW, HB, HZ⟩ := hrel
    by_cases hlt : k < sl
    · obtain ⟨z, hz⟩ : ∃ z, sp.getD k (0, 0) = z := ⟨_, rfl⟩
      obtain ⟨u, v⟩ := z
      rcases HS.out with h0 | ⟨b0, off, rfl, hb, hc⟩
      · exfalso; have h := HSL.out; rw [h0] at h; simp at h; omega
      · obtain ⟨hc1, hc2⟩ := hc k (by rw [HSL.out]; exact hlt)
        rw [hz] at hc1 hc2
        have HF : Hid (flat (sp.take k) ++ [.int .i64 u, .int .i64 v] = flat (sp.take (k + 1))) := Lib.hid (flat_snoc sp k (u, v) (by rw [HSL.out]; exact hlt) hz)
        clear hz hc
        simp only at hc1 hc2
        rw [← HB.out.cell (p := ⟨b0, off + k * 2, none⟩) hb] at hc1
        rw [← HB.out.cell (p := ⟨b0, off + k * 2 + 1, none⟩) hb] at hc2
        have hb3 : b0 < wr.heap.size := Nat.lt_of_lt_of_le hb HB.out.size
        have k1 := O0.out.cell 0
        simp only [List.getElem?_cons_zero, List.getElem?_cons_succ] at k1
        have k3 := O0.out.lt
        obtain ⟨i0, hi, hz0, hz1, hz2⟩ := info_parts rspot_info
        go_wp2_with (at_builtin; refine wpList_append_own _ rfl (.tmp 16) (.tmp 22) 22 rfl W.heap.size 56 i0 (.agg #[.int .i64 0, .int .i64 0]) 2 16 Try.underlying22 hi hz0 hz1 hz2 rfl (by decide) _ k (flat (sp.take k)) rfl ((OW.out.alloc _).alloc _) ⟨wr.heap.size + 1, 0, none⟩ 1 1 [.int .i64 u, .int .i64 v] rfl rfl ?c1 ?c2 ?c3 ?c4 ?c5 ?_)
        case c1 =>
          intro j z hj
          match j, hj with
          | 0, hj => simp at hj; subst hj; simp [Addr.add]
          | 1, hj => simp at hj; subst hj; simp [Addr.add]
        case c2 => intro z hz; simp at hz; rcases hz with rfl | rfl <;> rfl
        case c3 => unfold maxLen; omega
        case c4 => omega
        case c5 => simp; omega
        intro v2 w1 hown hgrow _
        replace B0 := Lib.hid (Blk.grown ((B0.out.alloc (.cells #[.int .i64 u, .int .i64 v] 62)).alloc (.cells #[.int .i64 u, .int .i64 v] 56)) hgrow (ownBlock_ne OW.out (show w.heap.size < W.heap.size by omega)))
        replace R0 := Lib.hid (Blk.grown ((R0.out.alloc (.cells #[.int .i64 u, .int .i64 v] 62)).alloc (.cells #[.int .i64 u, .int .i64 v] 56)) hgrow (ownBlock_ne OW.out (show w.heap.size + 1 < W.heap.size by omega)))
        replace O0 := Lib.hid (Blk.grown ((O0.out.alloc (.cells #[.int .i64 u, .int .i64 v] 62)).alloc (.cells #[.int .i64 u, .int .i64 v] 56)) hgrow (ownBlock_ne OW.out (show w.heap.size + 1 + 1 < W.heap.size by omega)))
        replace HB := Lib.hid (((HB.out.alloc HB.out.size (.cells #[.int .i64 u, .int .i64 v] 62)).alloc (by have h := HB.out.size; simp; omega) (.cells #[.int .i64 u, .int .i64 v] 56)).grown hgrow (by have h := HB.out.size; simp; omega) (fun g hg => Nat.le_trans HWs.out (OW.out.lt g hg).1))
        replace HZ : W.heap.size ≤ w1.heap.size := Nat.le_trans (by simp; omega) hgrow.size
        rw [HF.out] at hown
        replace OW := Lib.hid hown
        obtain ⟨a2, c2, rfl⟩ := own_slice OW.out
        clear hown hgrow hc1 hc2 hb3 k1 k3
        have k1 := O0.out.cell 0
        simp only [List.getElem?_cons_zero, List.getElem?_cons_succ] at k1
        have k2 := O0.out.frozen 0
        have HB0 := Lib.hid (B0.out.far (p := ⟨w.heap.size + 1 + 1, 0, none⟩) (by show w.heap.size ≠ w.heap.size + 1 + 1; omega) (.slice a2 (k + 1) c2))
        have HR0 := Lib.hid (R0.out.far (p := ⟨w.heap.size + 1 + 1, 0, none⟩) (by show w.heap.size + 1 ≠ w.heap.size + 1 + 1; omega) (.slice a2 (k + 1) c2))
        have HO0 := Lib.hid (O0.out.set_ 0 (.slice a2 (k + 1) c2))
        simp only [List.set_cons_zero, List.set_cons_succ] at HO0
        have HOW := Lib.hid (ownsRow_far OW.out (p := ⟨w.heap.size + 1 + 1, 0, none⟩) (show w.heap.size + 1 + 1 < W.heap.size by omega) (.slice a2 (k + 1) c2))
        have HHB := Lib.hid (HB.out.setCell (p := ⟨w.heap.size + 1 + 1, 0, none⟩) (show w.heap.size ≤ w.heap.size + 1 + 1 by omega) (.slice a2 (k + 1) c2))
        have HHZ : W.heap.size ≤ (w1.setCell ⟨w.heap.size + 1 + 1, 0, none⟩ (.slice a2 (k + 1) c2)).heap.size := by simpa [World.setCell] using HZ
        go_wp2
        go_roundw
        case rel => exact ⟨k + 1, _, by omega, by go_num, HB0, HR0, HO0, HOW, HHB, HHZ⟩
        case measure => simp [intOf] <;> omega
    · obtain rfl : sl = k := by omega
      have h4 := OW.out
      rw [List.take_of_length_le (by rw [HSL.out]; exact Nat.le_refl _)] at h4
      replace OW := Lib.hid h4
      clear h4
      have k1 := B0.out.cell 0
      have k2 := B0.out.cell 1
      simp only [List.getElem?_cons_zero, List.getElem?_cons_succ] at k1 k2
      go_wp2
      clear k1 k2
      go_loopw [7, 29] (fun _ i wq => ∃ (k : Nat) (ev : Value), k ≤ el ∧ i = .int .i64 k ∧ Hid (Blk wq (w.heap.size + 1) 25 [.slice none 0 0, .slice none 0 0]) ∧ Hid (Blk wq (w.heap.size + 1 + 1) 25 [tv, ev]) ∧ Hid (wq.ownsRow W.heap.size 56 2 tv sl (flat sp)) ∧ Hid (wq.ownsRow W.heap.size 102 8 ev k (eflat (es.take k))) ∧ Hid (Below w.heap.size w wq) ∧ W.heap.size ≤ wq.heap.size) (fun _ i _ => el - (intOf i).toNat)
      case atStart => exact ⟨0, .slice none 0 0, Nat.zero_le _, rfl, R0, O0, OW, Lib.hid ⟨rfl, .inl ⟨rfl, rfl⟩⟩, HB, HZ⟩
      case round =>
        clear B0 R0 O0 OW HB HZ
        obtain ⟨k, ev, hk, rfl, R0, O0, OW, EW, HB, HZ⟩ := hrel
        by_cases hlt : k < el
        · obtain ⟨z, hz⟩ : ∃ z, es.getD k ed0 = z := ⟨_, rfl⟩
          obtain ⟨pe, qe, ce, de, fe, ge, he, ie⟩ := z
          rcases HE.out with h0 | ⟨b0, off, rfl, hb, hc⟩
          · exfalso; have h := HEL.out; rw [h0] at h; simp at h; omega
          · have hcs := hc k (by rw [HEL.out]; exact hlt)
            rw [hz] at hcs
            have HF : Hid (eflat (es.take k) ++ [.int .i64 pe, .int .i64 qe, .int .u64 ce, .int .u64 de, .int .u64 fe, .int .u64 ge, .int .u64 he, .int .u64 ie] = eflat (es.take (k + 1))) := Lib.hid (eflat_snoc es k ⟨pe, qe, ce, de, fe, ge, he, ie⟩ (by rw [HEL.out]; exact hlt) hz)
            clear hz hc
            have e0 : wr.cell? ⟨b0, off + k * 8, none⟩ = some (.int .i64 pe) := (HB.out.cell (p := ⟨b0, off + k * 8, none⟩) hb).trans (hcs 0 _ rfl)
            have e1 : wr.cell? ⟨b0, off + k * 8 + 1, none⟩ = some (.int .i64 qe) := (HB.out.cell (p := ⟨b0, off + k * 8 + 1, none⟩) hb).trans (hcs 1 _ rfl)
            have e2 : wr.cell? ⟨b0, off + k * 8 + 2, none⟩ = some (.int .u64 ce) := (HB.out.cell (p := ⟨b0, off + k * 8 + 2, none⟩) hb).trans (hcs 2 _ rfl)
            have e3 : wr.cell? ⟨b0, off + k * 8 + 3, none⟩ = some (.int .u64 de) := (HB.out.cell (p := ⟨b0, off + k * 8 + 3, none⟩) hb).trans (hcs 3 _ rfl)
            have e4 : wr.cell? ⟨b0, off + k * 8 + 4, none⟩ = some (.int .u64 fe) := (HB.out.cell (p := ⟨b0, off + k * 8 + 4, none⟩) hb).trans (hcs 4 _ rfl)
            have e5 : wr.cell? ⟨b0, off + k * 8 + 5, none⟩ = some (.int .u64 ge) := (HB.out.cell (p := ⟨b0, off + k * 8 + 5, none⟩) hb).trans (hcs 5 _ rfl)
            have e6 : wr.cell? ⟨b0, off + k * 8 + 6, none⟩ = some (.int .u64 he) := (HB.out.cell (p := ⟨b0, off + k * 8 + 6, none⟩) hb).trans (hcs 6 _ rfl)
            have e7 : wr.cell? ⟨b0, off + k * 8 + 7, none⟩ = some (.int .u64 ie) := (HB.out.cell (p := ⟨b0, off + k * 8 + 7, none⟩) hb).trans (hcs 7 _ rfl)
            clear hcs
            have hb3 : b0 < wr.heap.size := Nat.lt_of_lt_of_le hb HB.out.size
            have k1 := O0.out.cell 1
            simp only [List.getElem?_cons_zero, List.getElem?_cons_succ] at k1
            have k3 := O0.out.lt
            obtain ⟨i0, hi, hz0, hz1, hz2⟩ := info_parts redge_info
            go_wp2_with (at_builtin; refine wpList_append_own _ rfl (.tmp 34) (.tmp 59) 23 rfl W.heap.size 102 i0 (.agg #[.int .i64 0, .int .i64 0, .int .u64 0, .int .u64 0, .int .u64 0, .int .u64 0, .int .u64 0, .int .u64 0]) 8 64 Try.underlying23 hi hz0 hz1 hz2 rfl (by decide) _ k (eflat (es.take k)) rfl ((EW.out.alloc _).alloc _) ⟨wr.heap.size + 1, 0, none⟩ 1 1 [.int .i64 pe, .int .i64 qe, .int .u64 ce, .int .u64 de, .int .u64 fe, .int .u64 ge, .int .u64 he, .int .u64 ie] rfl rfl ?c1 ?c2 ?c3 ?c4 ?c5 ?_)
            case c1 =>
              intro j z hj
              match j, hj with
              | 0, hj => simp at hj; subst hj; simp [Addr.add]
              | 1, hj => simp at hj; subst hj; simp [Addr.add]
              | 2, hj => simp at hj; subst hj; simp [Addr.add]
              | 3, hj => simp at hj; subst hj; simp [Addr.add]
              | 4, hj => simp at hj; subst hj; simp [Addr.add]
              | 5, hj => simp at hj; subst hj; simp [Addr.add]
              | 6, hj => simp at hj; subst hj; simp [Addr.add]
              | 7, hj => simp at hj; subst hj; simp [Addr.add]
            case c2 => intro z hz; simp at hz; rcases hz with rfl | rfl | rfl | rfl | rfl | rfl | rfl | rfl <;> rfl
            case c3 => unfold maxLen; omega
            case c4 => omega
            case c5 => simp; omega
            intro v2 w1 hown hgrow _
            replace R0 := Lib.hid (Blk.grown ((R0.out.alloc (.cells #[.int .i64 pe, .int .i64 qe, .int .u64 ce, .int .u64 de, .int .u64 fe, .int .u64 ge, .int .u64 he, .int .u64 ie] 52)).alloc (.cells #[.int .i64 pe, .int .i64 qe, .int .u64 ce, .int .u64 de, .int .u64 fe, .int .u64 ge, .int .u64 he, .int .u64 ie] 102)) hgrow (ownBlock_ne EW.out (show w.heap.size + 1 < W.heap.size by omega)))
            replace O0 := Lib.hid (Blk.grown ((O0.out.alloc (.cells #[.int .i64 pe, .int .i64 qe, .int .u64 ce, .int .u64 de, .int .u64 fe, .int .u64 ge, .int .u64 he, .int .u64 ie] 52)).alloc (.cells #[.int .i64 pe, .int .i64 qe, .int .u64 ce, .int .u64 de, .int .u64 fe, .int .u64 ge, .int .u64 he, .int .u64 ie] 102)) hgrow (ownBlock_ne EW.out (show w.heap.size + 1 + 1 < W.heap.size by omega)))
            replace OW := Lib.hid (World.ownsRow.kept ((OW.out.alloc (.cells #[.int .i64 pe, .int .i64 qe, .int .u64 ce, .int .u64 de, .int .u64 fe, .int .u64 ge, .int .u64 he, .int .u64 ie] 52)).alloc (.cells #[.int .i64 pe, .int .i64 qe, .int .u64 ce, .int .u64 de, .int .u64 fe, .int .u64 ge, .int .u64 he, .int .u64 ie] 102)) hgrow (own_apart OW.out EW.out (by decide)))
            replace HB := Lib.hid (((HB.out.alloc HB.out.size (.cells #[.int .i64 pe, .int .i64 qe, .int .u64 ce, .int .u64 de, .int .u64 fe, .int .u64 ge, .int .u64 he, .int .u64 ie] 52)).alloc (by have h := HB.out.size; simp; omega) (.cells #[.int .i64 pe, .int .i64 qe, .int .u64 ce, .int .u64 de, .int .u64 fe, .int .u64 ge, .int .u64 he, .int .u64 ie] 102)).grown hgrow (by have h := HB.out.size; simp; omega) (fun g hg => Nat.le_trans HWs.out (EW.out.lt g hg).1))
            replace HZ : W.heap.size ≤ w1.heap.size := Nat.le_trans (by simp; omega) hgrow.size
            rw [HF.out] at hown
            replace EW := Lib.hid hown
            obtain ⟨a2, c2, rfl⟩ := own_slice EW.out
            clear hown hgrow e0 e1 e2 e3 e4 e5 e6 e7 hb3 k1 k3
            have k1 := O0.out.cell 1
            simp only [List.getElem?_cons_zero, List.getElem?_cons_succ] at k1
            have k2 := O0.out.frozen 1
            have HR0 := Lib.hid (R0.out.far (p := ⟨w.heap.size + 1 + 1, 1, none⟩) (by show w.heap.size + 1 ≠ w.heap.size + 1 + 1; omega) (.slice a2 (k + 1) c2))
            have HO0 := Lib.hid (O0.out.set_ 1 (.slice a2 (k + 1) c2))
            simp only [List.set_cons_zero, List.set_cons_succ] at HO0
            have HOW := Lib.hid (ownsRow_far OW.out (p := ⟨w.heap.size + 1 + 1, 1, none⟩) (show w.heap.size + 1 + 1 < W.heap.size by omega) (.slice a2 (k + 1) c2))
            have HEW := Lib.hid (ownsRow_far EW.out (p := ⟨w.heap.size + 1 + 1, 1, none⟩) (show w.heap.size + 1 + 1 < W.heap.size by omega) (.slice a2 (k + 1) c2))
            have HHB := Lib.hid (HB.out.setCell (p := ⟨w.heap.size + 1 + 1, 1, none⟩) (show w.heap.size ≤ w.heap.size + 1 + 1 by omega) (.slice a2 (k + 1) c2))
            have HHZ : W.heap.size ≤ (w1.setCell ⟨w.heap.size + 1 + 1, 1, none⟩ (.slice a2 (k + 1) c2)).heap.size := by simpa [World.setCell] using HZ
            go_wp2
            go_roundw
            case rel => exact ⟨k + 1, _, by omega, by go_num, HR0, HO0, HOW, HEW, HHB, HHZ⟩
            case measure => simp [intOf] <;> omega
        · obtain rfl : el = k := by omega
          have h4 := EW.out
          rw [List.take_of_length_le (by rw [HEL.out]; exact Nat.le_refl _)] at h4
          have h5 := OW.out
          obtain ⟨a3, c3, e3⟩ := own_slice h4
          obtain ⟨a4, c4, e4⟩ := own_slice h5
          subst e3
          subst e4
          rw [← HEL.out] at h4
          rw [← HSL.out] at h5
          have k1 := O0.out.cell 0
          have k2 := O0.out.cell 1
          have k3 := R0.out.cell 0
          have k4 := R0.out.cell 1
          simp only [List.getElem?_cons_zero, List.getElem?_cons_succ] at k1 k2 k3 k4
          have k5 := R0.out.frozen 0
          have k6 := R0.out.frozen 1
          have H3 : Hid (∀ x y, EdgeRow ((wr.setCell ⟨w.heap.size + 1, 0, none⟩ x).setCell ⟨w.heap.size + 1, 1, none⟩ y) a3 es) := Lib.hid fun x y => EdgeRow.own2 (ownsRow_far (ownsRow_far h4 (p := ⟨w.heap.size + 1, 0, none⟩) (show w.heap.size + 1 < W.heap.size by omega) x) (p := ⟨w.heap.size + 1, 1, none⟩) (show w.heap.size + 1 < W.heap.size by omega) y)
          have H4 : Hid (∀ x y, SpotRow ((wr.setCell ⟨w.heap.size + 1, 0, none⟩ x).setCell ⟨w.heap.size + 1, 1, none⟩ y) a4 sp) := Lib.hid fun x y => SpotRow.own2 (ownsRow_far (ownsRow_far h5 (p := ⟨w.heap.size + 1, 0, none⟩) (show w.heap.size + 1 < W.heap.size by omega) x) (p := ⟨w.heap.size + 1, 1, none⟩) (show w.heap.size + 1 < W.heap.size by omega) y)
          clear h4 h5 OW EW
          go_wp2
          exact bodyPost_ret (result54 Try.results32 _ _ (w.heap.size + 1) 25 _ _ _ _ _ _ rfl (Blk.set_ (Blk.set_ R0.out 0 (.slice a4 sl c4)) 1 (.slice a3 el c3))) rfl ⟨a4, c4, a3, c3, rfl, H4.out _ _, H3.out _ _, (HB.out.setCell (show w.heap.size ≤ w.heap.size + 1 by omega) _).setCell (show w.heap.size ≤ w.heap.size + 1 by omega) _⟩
end Go.Proofs.Ytnnimjaigciedaa
