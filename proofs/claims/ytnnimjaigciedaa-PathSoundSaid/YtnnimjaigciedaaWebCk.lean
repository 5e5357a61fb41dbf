/-
  web's Check, and the document's: whether a web may be.
-/
import Derived.Test.YtnnimjaigciedaaWebTo
namespace Go.Proofs.Ytnnimjaigciedaa
open Go.RowKit
set_option linter.unusedVariables false

/-- A channel that may be. -/
def EdGood (sl : Nat) (e : Ed) : Prop := (0 ≤ e.p ∧ e.p < (sl : Int)) ∧ (0 ≤ e.q ∧ e.q < (sl : Int)) ∧ e.p ≠ e.q
instance (sl : Nat) (e : Ed) : Decidable (EdGood sl e) := by unfold EdGood; exact inferInstance
def AllGood (sl : Nat) (l : List Ed) : Prop := ∀ e ∈ l, EdGood sl e
instance (sl : Nat) (l : List Ed) : Decidable (AllGood sl l) := by unfold AllGood; exact inferInstance
def checkE (sl : Nat) (es : List Ed) : Int := if 8 < sl ∨ 16 < es.length then 8 else if AllGood sl es then 0 else 1

theorem drop_ed (l : List Ed) (k : Nat) (hk : k < l.length) : l.drop k = l.getD k ed0 :: l.drop (k + 1) := by
  have e : l.getD k ed0 = l[k] := by simp [List.getD, hk]
  rw [e]
  exact List.drop_eq_getElem_cons hk

theorem good_step {sl : Nat} {l : List Ed} {k : Nat} {e : Ed} (hk : k < l.length) (hx : l.getD k ed0 = e) (h : AllGood sl l ↔ AllGood sl (l.drop k)) :
    (EdGood sl e → (AllGood sl l ↔ AllGood sl (l.drop (k + 1)))) ∧ (¬ EdGood sl e → ¬ AllGood sl l) := by
  rw [drop_ed l k hk, hx] at h
  refine ⟨fun h1 => h.trans ?_, fun h1 h2 => h1 ((h.1 h2) e (by simp))⟩
  unfold AllGood
  simp only [List.mem_cons, forall_eq_or_imp]
  exact ⟨fun h => h.2, fun h => ⟨h1, h⟩⟩

set_option maxRecDepth 100000 in
set_option maxHeartbeats 4000000 in
theorem check_any (sa : Option Addr) (sl sc : Nat) (ea : Option Addr) (el ec : Nat) (es : List Ed) (w : World) (hE : EdgeRow w ea es) (hel : es.length = el) (hel2 : el ≤ 9223372036854775807) (hsl2 : sl ≤ 9223372036854775807) :
    Calls Try.prog 18 #[.agg #[.slice sa sl sc, .slice ea el ec]] w fun r w' => r = .returned (.int .i64 (checkE sl es)) ∧ Below w.heap.size w w' := by
  have HE := Lib.hid hE
  have HEL := Lib.hid hel
  clear hE hel
  by_cases hs8 : 8 < sl
  · have HX : Hid (checkE sl es = 8) := Lib.hid (by unfold checkE; rw [if_pos (.inl hs8)])
    have b1 : decide (8 < (sl : Int)) = true := decide_eq_true (by omega)
    clear hs8
    go_enter Try.func18, Try.ntmps18
    go_wp2
    go_ret
    exact ⟨by rw [HX.out]; rfl, (Below.refl _ _).alloc (Nat.le_refl _) _⟩
  by_cases he16 : 16 < el
  · have HX : Hid (checkE sl es = 8) := Lib.hid (by unfold checkE; rw [if_pos (.inr (by rw [HEL.out]; exact he16))])
    have b1 : decide (8 < (sl : Int)) = false := decide_eq_false (by omega)
    have b2 : decide (16 < (el : Int)) = true := decide_eq_true (by omega)
    clear hs8 he16
    go_enter Try.func18, Try.ntmps18
    go_wp2
    go_ret
    exact ⟨by rw [HX.out]; rfl, (Below.refl _ _).alloc (Nat.le_refl _) _⟩
  have HX1 : Hid (AllGood sl es → checkE sl es = 0) := Lib.hid (fun h => by unfold checkE; rw [if_neg (by rw [HEL.out]; omega), if_pos h])
  have HX2 : Hid (¬ AllGood sl es → checkE sl es = 1) := Lib.hid (fun h => by unfold checkE; rw [if_neg (by rw [HEL.out]; omega), if_neg h])
  have b1 : decide (8 < (sl : Int)) = false := decide_eq_false (by omega)
  have b2 : decide (16 < (el : Int)) = false := decide_eq_false (by omega)
  go_enter Try.func18, Try.ntmps18
  go_wp2
  have B0 : Hid (Blk (w.alloc (.cells #[.slice sa sl sc, .slice ea el ec] 31)) w.heap.size 31 [.slice sa sl sc, .slice ea el ec]) := Lib.hid (Blk.mk_ rfl)
  have HW : Hid (Below w.heap.size w (w.alloc (.cells #[.slice sa sl sc, .slice ea el ec] 31))) := Lib.hid ((Below.refl _ _).alloc (Nat.le_refl _) _)
  generalize w.alloc (.cells #[.slice sa sl sc, .slice ea el ec] 31) = W at B0 HW ⊢
  go_loopw [4, 18] (fun _ i wr => ∃ (k : Nat), k ≤ el ∧ i = .int .i64 k ∧ Hid (AllGood sl es ↔ AllGood sl (es.drop k)) ∧ Hid (Blk wr w.heap.size 31 [.slice sa sl sc, .slice ea el ec]) ∧ Hid (Below w.heap.size w wr)) (fun _ i _ => el - (intOf i).toNat)
  case atStart => exact ⟨0, Nat.zero_le _, rfl, Lib.hid Iff.rfl, B0, HW⟩
  case round =>
    clear B0 HW
    obtain ⟨k, hk, rfl, HA, B0, HB⟩ := hrel
    by_cases hlt : k < el
    · obtain ⟨z, hz⟩ : ∃ z, es.getD k ed0 = z := ⟨_, rfl⟩
      rcases HE.out with h0 | ⟨b0, off, rfl, hb, hc⟩
      · exfalso; have h := HEL.out; rw [h0] at h; simp at h; omega
      · have hcs := hc k (by rw [HEL.out]; exact hlt)
        rw [hz] at hcs
        have HG := Lib.hid (good_step (by rw [HEL.out]; exact hlt) hz HA.out)
        obtain ⟨pe, qe, ce, de, fe, ge, he, ie⟩ := z
        clear hz hc
        have e0 : wr.cell? ⟨b0, off + k * 8, none⟩ = some (.int .i64 pe) := (HB.out.cell (p := ⟨b0, off + k * 8, none⟩) hb).trans (hcs 0 _ rfl)
        have e1 : wr.cell? ⟨b0, off + k * 8 + 1, none⟩ = some (.int .i64 qe) := (HB.out.cell (p := ⟨b0, off + k * 8 + 1, none⟩) hb).trans (hcs 1 _ rfl)
        have e2 : wr.cell? ⟨b0, off + k * 8 + 2, none⟩ = some (.int .u64 ce) := (HB.out.cell (p := ⟨b0, off + k * 8 + 2, none⟩) hb).trans (hcs 2 _ rfl)
        have e3 : wr.cell? ⟨b0, off + k * 8 + 3, none⟩ = some (.int .u64 de) := (HB.out.cell (p := ⟨b0, off + k * 8 + 3, none⟩) hb).trans (hcs 3 _ rfl)
        have e4 : wr.cell? ⟨b0, off + k * 8 + 4, none⟩ = some (.int .u64 fe) := (HB.out.cell (p := ⟨b0, off + k * 8 + 4, none⟩) hb).trans (hcs 4 _ rfl)
        have e5 : wr.cell? ⟨b0, off + k * 8 + 5, none⟩ = some (.int .u64 ge) := (HB.out.cell (p := ⟨b0, off + k * 8 + 5, none⟩) hb).trans (hcs 5 _ rfl)
        have e6 : wr.cell? ⟨b0, off + k * 8 + 6, none⟩ = some (.int .u64 he) := (HB.out.cell (p := ⟨b0, off + k * 8 + 6, none⟩) hb).trans (hcs 6 _ rfl)
        have e7 : wr.cell? ⟨b0, off + k * 8 + 7, none⟩ = some (.int .u64 ie) := (HB.out.cell (p := ⟨b0, off + k * 8 + 7, none⟩) hb).trans (hcs 7 _ rfl)
        clear hcs
        have hb3 : b0 < wr.heap.size := Nat.lt_of_lt_of_le hb HB.out.size
        have k1 := B0.out.cell 0
        have k2 := B0.out.cell 1
        simp only [List.getElem?_cons_zero, List.getElem?_cons_succ] at k1 k2
        have k3 := B0.out.lt
        go_wp2_with fail
        replace B0 := Lib.hid (B0.out.alloc (.cells #[.int .i64 pe, .int .i64 qe, .int .u64 ce, .int .u64 de, .int .u64 fe, .int .u64 ge, .int .u64 he, .int .u64 ie] 52))
        replace HB := Lib.hid (HB.out.alloc HB.out.size (.cells #[.int .i64 pe, .int .i64 qe, .int .u64 ce, .int .u64 de, .int .u64 fe, .int .u64 ge, .int .u64 he, .int .u64 ie] 52))
        have E0 : Hid (Blk (wr.alloc (.cells #[.int .i64 pe, .int .i64 qe, .int .u64 ce, .int .u64 de, .int .u64 fe, .int .u64 ge, .int .u64 he, .int .u64 ie] 52)) wr.heap.size 52 [.int .i64 pe, .int .i64 qe, .int .u64 ce, .int .u64 de, .int .u64 fe, .int .u64 ge, .int .u64 he, .int .u64 ie]) := Lib.hid (Blk.mk_ rfl)
        generalize wr.alloc (.cells #[.int .i64 pe, .int .i64 qe, .int .u64 ce, .int .u64 de, .int .u64 fe, .int .u64 ge, .int .u64 he, .int .u64 ie] 52) = Y at B0 HB E0 ⊢
        generalize wr.heap.size = gE at E0 ⊢
        clear e0 e1 e2 e3 e4 e5 e6 e7 hb3 k1 k2 k3
        refine (has_any _ _ _ _ _ _ _ _).mono ?_
        rintro e Y1 ⟨rfl, hB⟩
        replace B0 := Lib.hid (B0.out.keep hB)
        replace E0 := Lib.hid (E0.out.keep hB)
        replace HB := Lib.hid (HB.out.trans (hB.mono HB.out.size))
        clear hB
        by_cases hp : 0 ≤ pe ∧ pe < (sl : Int)
        · have c1 : hasB pe sl = true := decide_eq_true hp
          have k1 := B0.out.cell 0
          have k2 := B0.out.cell 1
          have m0 := E0.out.cell 0
          have m1 := E0.out.cell 1
          simp only [List.getElem?_cons_zero, List.getElem?_cons_succ] at k1 k2 m0 m1
          go_wp2_with fail
          refine (has_any _ _ _ _ _ _ _ _).mono ?_
          rintro e Y2 ⟨rfl, hB⟩
          replace B0 := Lib.hid (B0.out.keep hB)
          replace E0 := Lib.hid (E0.out.keep hB)
          replace HB := Lib.hid (HB.out.trans (hB.mono HB.out.size))
          clear hB k1 k2 m0 m1
          by_cases hq : 0 ≤ qe ∧ qe < (sl : Int)
          · have c2 : hasB qe sl = true := decide_eq_true hq
            have k1 := B0.out.cell 0
            have k2 := B0.out.cell 1
            have m0 := E0.out.cell 0
            have m1 := E0.out.cell 1
            simp only [List.getElem?_cons_zero, List.getElem?_cons_succ] at k1 k2 m0 m1
            by_cases hpq : pe = qe
            · have c3 : (pe == qe) = true := by simpa using hpq
              have HN := Lib.hid (HX2.out (HG.out.2 (fun h => h.2.2 hpq)))
              clear hpq hp hq
              go_wp2
              go_ret
              exact ⟨by rw [HN.out]; rfl, HB.out⟩
            · have c3 : (pe == qe) = false := by simpa using hpq
              have HN := Lib.hid (HG.out.1 ⟨hp, hq, hpq⟩)
              clear hpq hp hq
              go_wp2
              go_roundw
              case rel => exact ⟨k + 1, by omega, by go_num, HN, B0, HB⟩
              case measure => simp [intOf] <;> omega
          · have c2 : hasB qe sl = false := decide_eq_false hq
            have HN := Lib.hid (HX2.out (HG.out.2 (fun h => hq h.2.1)))
            clear hp hq
            go_wp2
            go_ret
            exact ⟨by rw [HN.out]; rfl, HB.out⟩
        · have c1 : hasB pe sl = false := decide_eq_false hp
          have HN := Lib.hid (HX2.out (HG.out.2 (fun h => hp h.1)))
          clear hp
          go_wp2
          go_ret
          exact ⟨by rw [HN.out]; rfl, HB.out⟩
    · have HN : Hid (checkE sl es = 0) := Lib.hid (HX1.out (HA.out.2 (by rw [List.drop_eq_nil_of_le (by rw [HEL.out]; omega)]; intro p hp; cases hp)))
      go_wp2
      go_ret
      exact ⟨by rw [HN.out]; rfl, HB.out⟩

set_option maxRecDepth 100000 in
set_option maxHeartbeats 4000000 in
theorem rcheck_any (sa : Option Addr) (sl sc : Nat) (ea : Option Addr) (el ec : Nat) (es : List Ed) (w : World) (hE : EdgeRow w ea es) (hel : es.length = el) (hel2 : el ≤ 9223372036854775807) (hsl2 : sl ≤ 9223372036854775807) :
    Calls Try.prog 19 #[.agg #[.slice sa sl sc, .slice ea el ec]] w fun r w' => r = .returned (.int .i64 (checkE sl es)) ∧ Below w.heap.size w w' := by
  have HE := Lib.hid hE
  have HEL := Lib.hid hel
  clear hE hel
  by_cases hs8 : 8 < sl
  · have HX : Hid (checkE sl es = 8) := Lib.hid (by unfold checkE; rw [if_pos (.inl hs8)])
    have b1 : decide (8 < (sl : Int)) = true := decide_eq_true (by omega)
    clear hs8
    go_enter Try.func19, Try.ntmps19
    go_wp2
    go_ret
    exact ⟨by rw [HX.out]; rfl, (Below.refl _ _).alloc (Nat.le_refl _) _⟩
  by_cases he16 : 16 < el
  · have HX : Hid (checkE sl es = 8) := Lib.hid (by unfold checkE; rw [if_pos (.inr (by rw [HEL.out]; exact he16))])
    have b1 : decide (8 < (sl : Int)) = false := decide_eq_false (by omega)
    have b2 : decide (16 < (el : Int)) = true := decide_eq_true (by omega)
    clear hs8 he16
    go_enter Try.func19, Try.ntmps19
    go_wp2
    go_ret
    exact ⟨by rw [HX.out]; rfl, (Below.refl _ _).alloc (Nat.le_refl _) _⟩
  have HX1 : Hid (AllGood sl es → checkE sl es = 0) := Lib.hid (fun h => by unfold checkE; rw [if_neg (by rw [HEL.out]; omega), if_pos h])
  have HX2 : Hid (¬ AllGood sl es → checkE sl es = 1) := Lib.hid (fun h => by unfold checkE; rw [if_neg (by rw [HEL.out]; omega), if_neg h])
  have b1 : decide (8 < (sl : Int)) = false := decide_eq_false (by omega)
  have b2 : decide (16 < (el : Int)) = false := decide_eq_false (by omega)
  go_enter Try.func19, Try.ntmps19
  go_wp2
  have B0 : Hid (Blk (w.alloc (.cells #[.slice sa sl sc, .slice ea el ec] 25)) w.heap.size 25 [.slice sa sl sc, .slice ea el ec]) := Lib.hid (Blk.mk_ rfl)
  have HW : Hid (Below w.heap.size w (w.alloc (.cells #[.slice sa sl sc, .slice ea el ec] 25))) := Lib.hid ((Below.refl _ _).alloc (Nat.le_refl _) _)
  generalize w.alloc (.cells #[.slice sa sl sc, .slice ea el ec] 25) = W at B0 HW ⊢
  go_loopw [3, 4, 5] (fun i _ _ wr => ∃ (k : Nat), k ≤ el ∧ i = .int .i64 k ∧ Hid (AllGood sl es ↔ AllGood sl (es.drop k)) ∧ Hid (Blk wr w.heap.size 25 [.slice sa sl sc, .slice ea el ec]) ∧ Hid (Below w.heap.size w wr)) (fun i _ _ _ => el - (intOf i).toNat)
  case atStart => exact ⟨0, Nat.zero_le _, rfl, Lib.hid Iff.rfl, B0, HW⟩
  case round =>
    clear B0 HW
    obtain ⟨k, hk, rfl, HA, B0, HB⟩ := hrel
    by_cases hlt : k < el
    · obtain ⟨z, hz⟩ : ∃ z, es.getD k ed0 = z := ⟨_, rfl⟩
      rcases HE.out with h0 | ⟨b0, off, rfl, hb, hc⟩
      · exfalso; have h := HEL.out; rw [h0] at h; simp at h; omega
      · have hcs := hc k (by rw [HEL.out]; exact hlt)
        rw [hz] at hcs
        have HG := Lib.hid (good_step (by rw [HEL.out]; exact hlt) hz HA.out)
        obtain ⟨pe, qe, ce, de, fe, ge, he, ie⟩ := z
        clear hz hc
        have e0 : wr.cell? ⟨b0, off + k * 8, none⟩ = some (.int .i64 pe) := (HB.out.cell (p := ⟨b0, off + k * 8, none⟩) hb).trans (hcs 0 _ rfl)
        have e1 : wr.cell? ⟨b0, off + k * 8 + 1, none⟩ = some (.int .i64 qe) := (HB.out.cell (p := ⟨b0, off + k * 8 + 1, none⟩) hb).trans (hcs 1 _ rfl)
        have e2 : wr.cell? ⟨b0, off + k * 8 + 2, none⟩ = some (.int .u64 ce) := (HB.out.cell (p := ⟨b0, off + k * 8 + 2, none⟩) hb).trans (hcs 2 _ rfl)
        have e3 : wr.cell? ⟨b0, off + k * 8 + 3, none⟩ = some (.int .u64 de) := (HB.out.cell (p := ⟨b0, off + k * 8 + 3, none⟩) hb).trans (hcs 3 _ rfl)
        have e4 : wr.cell? ⟨b0, off + k * 8 + 4, none⟩ = some (.int .u64 fe) := (HB.out.cell (p := ⟨b0, off + k * 8 + 4, none⟩) hb).trans (hcs 4 _ rfl)
        have e5 : wr.cell? ⟨b0, off + k * 8 + 5, none⟩ = some (.int .u64 ge) := (HB.out.cell (p := ⟨b0, off + k * 8 + 5, none⟩) hb).trans (hcs 5 _ rfl)
        have e6 : wr.cell? ⟨b0, off + k * 8 + 6, none⟩ = some (.int .u64 he) := (HB.out.cell (p := ⟨b0, off + k * 8 + 6, none⟩) hb).trans (hcs 6 _ rfl)
        have e7 : wr.cell? ⟨b0, off + k * 8 + 7, none⟩ = some (.int .u64 ie) := (HB.out.cell (p := ⟨b0, off + k * 8 + 7, none⟩) hb).trans (hcs 7 _ rfl)
        clear hcs
        have hb3 : b0 < wr.heap.size := Nat.lt_of_lt_of_le hb HB.out.size
        have k1 := B0.out.cell 0
        have k2 := B0.out.cell 1
        simp only [List.getElem?_cons_zero, List.getElem?_cons_succ] at k1 k2
        have k3 := B0.out.lt
        have hk1 : (0 : Int) ≤ (k : Int) := by omega
        have hk2 : (k : Int) < (el : Int) := by omega
        go_upto_region 6 with fail
        go_quiet (fail)
        replace B0 := Lib.hid (B0.out.drewN nq)
        replace HB := Lib.hid (below_drewN HB.out nq)
        clear e0 e1 e2 e3 e4 e5 e6 e7 hb3 k1 k2 k3
        generalize wr.drewN nq = Y at B0 HB ⊢
        have k1 := B0.out.cell 0
        have k2 := B0.out.cell 1
        simp only [List.getElem?_cons_zero, List.getElem?_cons_succ] at k1 k2
        have k3 := B0.out.lt
        by_cases h1 : pe < 0
        · have HN := Lib.hid (HX2.out (HG.out.2 (fun h => by have h2 := h.1.1; simp only at h2; omega)))
          go_wp2
          go_ret
          exact ⟨by rw [HN.out]; rfl, HB.out⟩
        · by_cases h2 : qe < 0
          · have HN := Lib.hid (HX2.out (HG.out.2 (fun h => by have h3 := h.2.1.1; simp only at h3; omega)))
            go_wp2
            go_ret
            exact ⟨by rw [HN.out]; rfl, HB.out⟩
          · by_cases h3 : (sl : Int) ≤ pe
            · have HN := Lib.hid (HX2.out (HG.out.2 (fun h => by have h4 := h.1.2; simp only at h4; omega)))
              go_wp2
              go_ret
              exact ⟨by rw [HN.out]; rfl, HB.out⟩
            · by_cases h4 : (sl : Int) ≤ qe
              · have HN := Lib.hid (HX2.out (HG.out.2 (fun h => by have h5 := h.2.1.2; simp only at h5; omega)))
                go_wp2
                go_ret
                exact ⟨by rw [HN.out]; rfl, HB.out⟩
              · by_cases h5 : pe = qe
                · have c3 : (pe == qe) = true := by simpa using h5
                  have HN := Lib.hid (HX2.out (HG.out.2 (fun h => h.2.2 h5)))
                  clear h5
                  go_wp2
                  go_ret
                  exact ⟨by rw [HN.out]; rfl, HB.out⟩
                · have c3 : (pe == qe) = false := by simpa using h5
                  have HN := Lib.hid (HG.out.1 ⟨⟨by show 0 ≤ pe; omega, by show pe < (sl : Int); omega⟩, ⟨by show 0 ≤ qe; omega, by show qe < (sl : Int); omega⟩, h5⟩)
                  clear h5
                  go_wp2
                  go_roundw
                  case rel => exact ⟨k + 1, by omega, by go_num, HN, B0, HB⟩
                  case measure => simp [intOf] <;> omega
    · have HN : Hid (checkE sl es = 0) := Lib.hid (HX1.out (HA.out.2 (by rw [List.drop_eq_nil_of_le (by rw [HEL.out]; omega)]; intro p hp; cases hp)))
      have k1 := B0.out.cell 0
      have k2 := B0.out.cell 1
      simp only [List.getElem?_cons_zero, List.getElem?_cons_succ] at k1 k2
      have k3 := B0.out.lt
      go_wp2
      go_ret
      exact ⟨by rw [HN.out]; rfl, HB.out⟩
end Go.Proofs.Ytnnimjaigciedaa
