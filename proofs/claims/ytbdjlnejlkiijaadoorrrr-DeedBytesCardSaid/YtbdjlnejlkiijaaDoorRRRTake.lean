/-
  mill.take (function 26): a mill into which some bytes came has, behind a slice of bytes more, taken in these, too; only its own block is written.
-/
import Derived.Test.YtbdjlnejlkiijaaDoorRRRRep
namespace Go.Proofs.YtbdjlnejlkiijaaDoorRRR
open Go.RowKit
set_option linter.unusedVariables false

theorem Tab.lt {w : World} (h : Tab w) : 0 < w.heap.size := World.block_lt_of_cell? w _ (h.at 0 (by omega))
theorem Tab.grown {w w' : World} {b : Nat} (h : Tab w) (hg : w.grownBy w' (some b)) (hb : b ≠ 0) : Tab w' := fun j v hv => by
  rw [← h j v hv]
  exact World.cell?_of_block (hg.block 0 h.lt (fun e => hb (by injection e with e; exact e.symm)))
theorem Tab.below {w w' : World} {B : Nat} (h : Tab w) (hg : Below B w w') (hb : 0 < B) : Tab w' := fun j v hv => by
  rw [← h j v hv]
  exact hg.cell (p := ⟨0, 0 + j, none⟩) hb

/-- What a mill is behind more bytes. -/
def Took (w : World) (b : Nat) (l : List Nat) (e : Ending) (w' : World) : Prop := e = .returned (.tuple #[]) ∧ (∃ bs, Rep w' b l bs) ∧ w.grownBy w' (some b)

theorem slice_block (b r : Nat) (hr : r < 64) (W : World) : (Instr.sliceAt 141 (.pointer (some ⟨b, 8, none⟩)) (some (.int .u64 (r : Int))) none none).run Tryd.prog W = .ok (.slice (some ⟨b, 8 + r, none⟩) (64 - r) (64 - r)) W := by
  have h := run_sliceAt_array_l (P := Tryd.prog) W 141 ⟨b, 8, none⟩ (by kernel_rfl) .u64 (r : Int) (by omega) (by rw [show Tryd.prog.arrayLen 141 = 64 by kernel_rfl]; omega)
  rw [h, show Tryd.prog.arrayLen 141 = 64 by kernel_rfl, show Tryd.prog.elem 141 = 5 by kernel_rfl]
  obtain ⟨i0, hi, hz0, hz1, hz2⟩ := info_parts (show (Tryd.prog.info? 5).map (fun i => (i.zero, i.size, i.bytes)) = some (some (.int .u8 0), 1, 1) by kernel_rfl)
  have e : ¬ (64 = r) := by omega
  simp [sizeOf, typeInfo, hi, hz1, slicedAt, e, Addr.add_mid]

theorem mill_setMany (ws bs : List Nat) (n x : Nat) (h1 : ws.length = 8) (h2 : bs.length = 64) : (millCells ws bs n).set 72 (.int .u64 (x : Int)) = millCells ws bs x := by
  unfold millCells
  rw [List.set_append_right _ _ (by rw [w32_length]; omega), List.set_append_right _ _ (by rw [w32_length, w8_length]; omega), w32_length, w8_length, h1, h2]
  rfl

theorem Src.cut {w : World} {b : Nat} {g off c n : Nat} {l : List Nat} (h : Src w b (some ⟨g, off, none⟩) c l) (hn : n ≤ l.length) : Src w b (if c = n then some ⟨g, off, none⟩ else some ⟨g, off + n, none⟩) (c - n) (l.drop n) := by
  refine ⟨by have := h.le; rw [List.length_drop]; omega, ?_, fun x hx => h.lt x (List.mem_of_mem_drop hx)⟩
  rcases Nat.lt_or_ge n l.length with hlt | hge
  · rcases h.at_ with h0 | ⟨g', off', he, h2, h3, h4⟩
    · rw [h0] at hlt; simp at hlt
    · injection he with he
      injection he with e1 e2
      subst e1; subst e2
      have := h.le
      rw [if_neg (by omega)]
      refine .inr ⟨g, off + n, rfl, h2, h3, fun i hi => ?_⟩
      rw [List.length_drop] at hi
      rw [Nat.add_assoc, h4 (n + i) (by omega)]
      simp [List.getD]
  · exact .inl (List.drop_eq_nil_of_le hge)

def lenOf : Value → Nat
  | .slice _ n _ => n
  | _ => 0

set_option maxRecDepth 100000 in
set_option maxHeartbeats 4000000 in
theorem take_any (b c : Nat) (A : Option Addr) (l bs part : List Nat) (w : World) (HR : Hid (Rep w b l bs)) (HT : Hid (Tab w)) (hb : b ≠ 0) (HS : Hid (Src w b A c part)) (HN : Hid (l.length + part.length ≤ 1000000000000)) (hc : c ≤ 9223372036854775807) (m : Nat) (HM : Hid (part.length = m)) :
    Calls Tryd.prog 64 #[.pointer (some ⟨b, 0, none⟩), .slice A m c] w (Took w b (l ++ part)) := by
  go_enter Tryd.func64, Tryd.ntmps64
  go_wp2_with fail
  go_loopw [1] (fun v wr => ∃ (A' : Option Addr) (c' m' : Nat) (pre rest bs' : List Nat), c' ≤ 9223372036854775807 ∧ v = .slice A' m' c' ∧ Hid (rest.length = m') ∧ Hid (pre ++ rest = part) ∧ Hid (Src wr b A' c' rest) ∧ Hid (Rep wr b (l ++ pre) bs') ∧ Hid (w.grownBy wr (some b))) (fun v _ => lenOf v)
  case atStart => exact ⟨A, c, m, [], part, bs, hc, rfl, HM, Lib.hid rfl, HS, Lib.hid (by rw [List.append_nil]; exact HR.out), Lib.hid (only_refl _ _)⟩
  case round =>
    obtain ⟨A', c', m', pre, rest, bs', hc', rfl, HM', HP, HS', HR', HG⟩ := hrel
    by_cases hm0 : m' = 0
    · subst hm0
      go_wp2
      go_end0
      have h0 : rest = [] := List.eq_nil_of_length_eq_zero HM'.out
      have hp := HP.out
      rw [h0, List.append_nil] at hp
      exact ⟨rfl, ⟨bs', by rw [← hp]; exact HR'.out⟩, HG.out⟩
    · have hpos : 0 < m' := by omega
      have hposI : (0 : Int) < (m' : Int) := by omega
      obtain ⟨L, hL⟩ : ∃ L, (l ++ pre).length = L := ⟨_, rfl⟩
      obtain ⟨r, hr⟩ : ∃ r, L % 64 = r := ⟨_, rfl⟩
      obtain ⟨n, hn⟩ : ∃ n, min m' (64 - r) = n := ⟨_, rfl⟩
      have hLb : L + m' ≤ 1000000000000 := by have h1 := HN.out; have h2 := HP.out; have h3 := HM'.out; rw [← h2, List.length_append] at h1; rw [List.length_append] at hL; omega
      have hc72 := HR'.out.blk.cell 72
      rw [mill_many _ _ _ (wordsAt_length _ _) HR'.out.len, hL] at hc72
      have hf72 := HR'.out.blk.frozen 72
      have hrlt : r < 64 := by omega
      have hn1 : 0 < n := by omega
      have hn2 : n ≤ m' := by omega
      have hn3 : r + n ≤ 64 := by omega
      have hsl := slice_block b r hrlt
      have hrI : (L : Int).tmod 64 = (r : Int) := by rw [Int.tmod_eq_emod_of_nonneg (by omega)]; omega
      have r1 : (0 : Int) ≤ (r : Int) := by omega
      have r2 : (r : Int) < 64 := by omega
      have L0 : (0 : Int) ≤ (L : Int) := by omega
      have L1 : (L : Int) ≤ 1000000000000 := by omega
      rcases HS'.out.at_ with h0 | ⟨g, off, rfl, hg, hgb, hcell⟩
      · have := HM'.out
        rw [h0] at this
        simp at this
        omega
      have HCL : Hid ((w8 (rest.take n)).length = n) := Lib.hid (by rw [w8_length, List.length_take, HM'.out]; omega)
      have HMN : Hid (n = Nat.min m' (64 - r)) := Lib.hid hn.symm
      have HCS : Hid (∀ j v, (w8 (rest.take n))[j]? = some v → wr.drew.cell? ((⟨g, off, none⟩ : Addr).add j) = some v) := Lib.hid (by
        intro j v hv
        have hj : j < n := by have := (List.getElem?_eq_some_iff.1 hv).1; rw [HCL.out] at this; exact this
        rw [Addr.add_mid]
        show wr.cell? ⟨g, off + j, none⟩ = some v
        rw [hcell j (by rw [HM'.out]; omega), ← hv, w8_get _ _ (by rw [List.length_take, HM'.out]; omega)]
        simp [List.getD, hj])
      have HFI : Hid (8 + r + n ≤ (millCells (wordsAt (l ++ pre) ((l ++ pre).length / 64)) bs' (l ++ pre).length).length) := Lib.hid (by rw [mill_length _ _ _ (wordsAt_length _ _) HR'.out.len]; omega)
      have HO8 := Lib.hid (w8_one (rest.take n))
      have HBD : Hid (Blk wr.drew b 143 (millCells (wordsAt (l ++ pre) ((l ++ pre).length / 64)) bs' (l ++ pre).length)) := Lib.hid HR'.out.blk
      have HLR := Lib.hid (And.intro hL (And.intro hr hn))
      clear hr hn hL hcell
      go_wp2_with fail
      go_region_law (refine step_copy_at rfl (.tmp 16) (.tmp 17) 35 35 rfl 5 Tryd.underlying35 info5 b (8 + r) (64 - r) (64 - r) ⟨g, off, none⟩ m' c' (by rfl) (by rfl) _ 143 HBD.out (w8 (rest.take n)) n HCL.out HMN.out HCS.out HFI.out HO8.out ?_; intro w5 HB5 HG5)
      have HG6 : Hid (w.grownBy w5 (some b)) := Lib.hid (only_trans (only_drewN HG.out 1) HG5.out)
      have HB6 : Hid (Blk w5 b 143 (millCells (wordsAt (l ++ pre) ((l ++ pre).length / 64)) (splice bs' r (rest.take n)) L)) := Lib.hid (by
        have h := HB5.out
        rw [splice_mill _ _ _ _ _ (wordsAt_length _ _) HR'.out.len (by rw [← w8_length, HCL.out]; exact hn3), HLR.out.1] at h
        rw [HLR.out.1]
        exact h)
      have HSL : Hid ((splice bs' r (rest.take n)).length = 64) := Lib.hid (splice_length' _ _ _ HR'.out.len (by rw [← w8_length, HCL.out]; exact hn3))
      have d72 := HB6.out.cell 72
      rw [mill_many _ _ _ (wordsAt_length _ _) HSL.out] at d72
      have e72 := HB6.out.frozen 72
      have HSC := Lib.hid (HS'.out.cut (n := n) (by rw [HM'.out]; exact hn2))
      have hcm : m' ≤ c' := by have := HS'.out.le; rw [HM'.out] at this; exact this
      have n0 : (0 : Int) ≤ (n : Int) := by omega
      have n1 : (n : Int) ≤ (m' : Int) := by omega
      have n2 : (n : Int) ≤ 64 := by omega
      have HSR := Lib.hid (HSC.out.grown (only_trans (only_drewN (only_refl wr (some b)) 1) HG5.out))
      have HML : Hid ((rest.drop n).length = m' - n) := Lib.hid (by rw [List.length_drop, HM'.out])
      have HPP : Hid (pre ++ rest.take n ++ rest.drop n = part) := Lib.hid (by rw [List.append_assoc, List.take_append_drop]; exact HP.out)
      have HCH : Hid (∀ x ∈ rest.take n, x < 256) := Lib.hid fun x hx => HS'.out.lt x (List.mem_of_mem_take hx)
      have HTL : Hid ((rest.take n).length = n) := Lib.hid (by rw [← w8_length]; exact HCL.out)
      clear hc72 hf72 hrI hsl
      have HMG : Hid (Blk (w5.setCell ⟨b, 72, none⟩ (.int .u64 ((L : Int) + (n : Int)))) b 143 (millCells (wordsAt (l ++ pre) ((l ++ pre).length / 64)) (splice bs' r (rest.take n)) (L + n))) := Lib.hid (by
        have h := HB6.out.set_ 72 (.int .u64 ((L + n : Nat) : Int))
        rw [mill_setMany _ _ _ _ (wordsAt_length _ _) HSL.out] at h
        simpa using h)
      have HGG : Hid (w.grownBy (w5.setCell ⟨b, 72, none⟩ (.int .u64 ((L : Int) + (n : Int)))) (some b)) := Lib.hid (only_setCell HG6.out (.inl rfl) _)
      have HTG : Hid (Tab (w5.setCell ⟨b, 72, none⟩ (.int .u64 ((L : Int) + (n : Int))))) := Lib.hid (HT.out.grown HGG.out hb)
      by_cases hfull : r + n = 64
      · have hb1 : (((L : Int) + (n : Int)) % 64 == 0) = true := by have h1 := HLR.out.2.1; simp; omega
        by_cases hcap : c' = n
        · rw [if_pos hcap, show c' - n = 0 by omega] at HSR
          have HSG := Lib.hid (HSR.out.grown (only_setCell (only_refl w5 (some b)) (p := ⟨b, 72, none⟩) (.inl rfl) (.int .u64 ((L : Int) + (n : Int)))))
          go_wp2_with fail
          refine (grind_any b (L + n) _ _ _ HMG HTG hb (Lib.hid (wordsAt_length _ _)) HSL (Lib.hid (splice_lt _ _ _ HR'.out.lt HCH.out)) (Lib.hid (wordsAt_lt _ _))).mono ?_
          rintro e w7 ⟨rfl, hb7, hg7⟩
          have HR7 : Hid (Rep w7 b (l ++ pre ++ rest.take n) (splice bs' r (rest.take n))) := Lib.hid (by
            have h := HR'.out.full (ch := rest.take n) HCH.out (by rw [HLR.out.1, HLR.out.2.1, HTL.out]; exact hfull) (w' := w7) (by rw [HLR.out.1, HLR.out.2.1, HTL.out]; rw [HLR.out.1] at hb7; exact hb7)
            rw [HLR.out.1, HLR.out.2.1] at h
            exact h)
          have HG7 := Lib.hid (only_trans HGG.out hg7)
          have HS7 := Lib.hid (HSG.out.grown hg7)
          clear hb7 hg7
          go_wp2
          go_roundw
          case rel => exact ⟨_, _, _, pre ++ rest.take n, rest.drop n, _, by omega, rfl, HML, HPP, HS7, Lib.hid (by rw [← List.append_assoc]; exact HR7.out), HG7⟩
          case measure => simp [lenOf]; omega
        · rw [if_neg hcap] at HSR
          have HSG := Lib.hid (HSR.out.grown (only_setCell (only_refl w5 (some b)) (p := ⟨b, 72, none⟩) (.inl rfl) (.int .u64 ((L : Int) + (n : Int)))))
          go_wp2_with fail
          refine (grind_any b (L + n) _ _ _ HMG HTG hb (Lib.hid (wordsAt_length _ _)) HSL (Lib.hid (splice_lt _ _ _ HR'.out.lt HCH.out)) (Lib.hid (wordsAt_lt _ _))).mono ?_
          rintro e w7 ⟨rfl, hb7, hg7⟩
          have HR7 : Hid (Rep w7 b (l ++ pre ++ rest.take n) (splice bs' r (rest.take n))) := Lib.hid (by
            have h := HR'.out.full (ch := rest.take n) HCH.out (by rw [HLR.out.1, HLR.out.2.1, HTL.out]; exact hfull) (w' := w7) (by rw [HLR.out.1, HLR.out.2.1, HTL.out]; rw [HLR.out.1] at hb7; exact hb7)
            rw [HLR.out.1, HLR.out.2.1] at h
            exact h)
          have HG7 := Lib.hid (only_trans HGG.out hg7)
          have HS7 := Lib.hid (HSG.out.grown hg7)
          clear hb7 hg7
          go_wp2
          go_roundw
          case rel => exact ⟨_, _, _, pre ++ rest.take n, rest.drop n, _, by omega, rfl, HML, HPP, HS7, Lib.hid (by rw [← List.append_assoc]; exact HR7.out), HG7⟩
          case measure => simp [lenOf]; omega
      · have hb1 : (((L : Int) + (n : Int)) % 64 == 0) = false := by have h1 := HLR.out.2.1; simp; omega
        have HR7 : Hid (Rep (w5.setCell ⟨b, 72, none⟩ (.int .u64 ((L : Int) + (n : Int)))) b (l ++ pre ++ rest.take n) (splice bs' r (rest.take n))) := Lib.hid (by
          have h := HR'.out.some_ (ch := rest.take n) HCH.out (by rw [HLR.out.1, HLR.out.2.1, HTL.out]; omega) (w' := w5.setCell ⟨b, 72, none⟩ (.int .u64 ((L : Int) + (n : Int)))) (by rw [HLR.out.1, HLR.out.2.1, HTL.out]; have h2 := HMG.out; rw [HLR.out.1] at h2; exact h2)
          rw [HLR.out.1, HLR.out.2.1] at h
          exact h)
        by_cases hcap : c' = n
        · rw [if_pos hcap, show c' - n = 0 by omega] at HSR
          have HSG := Lib.hid (HSR.out.grown (only_setCell (only_refl w5 (some b)) (p := ⟨b, 72, none⟩) (.inl rfl) (.int .u64 ((L : Int) + (n : Int)))))
          go_wp2
          go_roundw
          case rel => exact ⟨_, _, _, pre ++ rest.take n, rest.drop n, _, by omega, rfl, HML, HPP, HSG, Lib.hid (by rw [← List.append_assoc]; exact HR7.out), HGG⟩
          case measure => simp [lenOf]; omega
        · rw [if_neg hcap] at HSR
          have HSG := Lib.hid (HSR.out.grown (only_setCell (only_refl w5 (some b)) (p := ⟨b, 72, none⟩) (.inl rfl) (.int .u64 ((L : Int) + (n : Int)))))
          go_wp2
          go_roundw
          case rel => exact ⟨_, _, _, pre ++ rest.take n, rest.drop n, _, by omega, rfl, HML, HPP, HSG, Lib.hid (by rw [← List.append_assoc]; exact HR7.out), HGG⟩
          case measure => simp [lenOf]; omega
end Go.Proofs.YtbdjlnejlkiijaaDoorRRR
