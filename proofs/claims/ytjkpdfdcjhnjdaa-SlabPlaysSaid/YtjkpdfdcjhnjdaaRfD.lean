/-
  The document's slab: Crash.
-/
import Derived.Test.YtjkpdfdcjhnjdaaRfB
import Derived.Test.YtjkpdfdcjhnjdaaSlG
namespace Go.Proofs.Ytjkpdfdcjhnjdaa
open Go.RowKit
set_option linter.unusedVariables false

/-- What a crash has kept of the first i loose bytes. -/
def crsP (s : SS) (a c : Int) (i : Nat) : List Int := s.l.take (s.k + min i (crsK s a)) ++ List.replicate (min (i - crsK s a) (crsZ s a c)) 0
theorem crsP_zero (s : SS) (a c : Int) : crsP s a c 0 = s.l.take s.k := by simp [crsP]
theorem crsP_end (s : SS) (a c : Int) : crsP s a c (loose s) = crsL s a c := by
  unfold crsP crsL
  have h1 : crsK s a ≤ loose s := nearN_le _ _
  have h2 : crsZ s a c ≤ loose s - crsK s a := nearN_le _ _
  rw [Nat.min_eq_right h1, Nat.min_eq_right h2]
theorem crsP_keep (s : SS) (a c : Int) (i : Nat) (hi : i < loose s) (hk : (i : Int) < a) : crsP s a c (i + 1) = crsP s a c i ++ [(s.l.drop s.k).getD i 0] := by
  have h1 : i < crsK s a := by unfold crsK nearN; split; omega; split <;> omega
  unfold crsP
  unfold loose at hi
  rw [show min (i + 1) (crsK s a) = i + 1 by omega, show min i (crsK s a) = i by omega, show i + 1 - crsK s a = 0 by omega, show i - crsK s a = 0 by omega]
  simp only [Nat.zero_min, List.replicate_zero, List.append_nil]
  rw [← Nat.add_assoc, List.take_succ_eq_append_getElem (by omega)]
  simp [List.getD, show i < s.l.length - s.k by omega]
theorem crsP_zeros (s : SS) (a c : Int) (i : Nat) (hi : i < loose s) (hk : ¬ (i : Int) < a) (hz : (a < 0 ∧ (i : Int) < c) ∨ (0 ≤ a ∧ (i : Int) - a < c)) : crsP s a c (i + 1) = crsP s a c i ++ [0] := by
  have h1 : crsK s a ≤ i := by unfold crsK nearN; split; omega; split <;> omega
  have h2 : i - crsK s a < crsZ s a c := by
    unfold crsZ crsK nearN
    rcases hz with ⟨h3, h4⟩ | ⟨h3, h4⟩
    · rw [if_pos h3]
      split; omega
      split <;> omega
    · rw [if_neg (by omega), if_neg (by omega)]
      split; omega
      split <;> omega
  unfold crsP
  rw [show min (i + 1) (crsK s a) = crsK s a by omega, show min i (crsK s a) = crsK s a by omega, show min (i + 1 - crsK s a) (crsZ s a c) = (i - crsK s a) + 1 by omega, show min (i - crsK s a) (crsZ s a c) = i - crsK s a by omega, List.append_assoc, List.replicate_succ']
theorem crsP_none (s : SS) (a c : Int) (i : Nat) (hi : i < loose s) (hk : ¬ (i : Int) < a) (hz : ¬ ((a < 0 ∧ (i : Int) < c) ∨ (0 ≤ a ∧ (i : Int) - a < c))) : crsP s a c (i + 1) = crsP s a c i := by
  have h1 : crsK s a ≤ i := by unfold crsK nearN; split; omega; split <;> omega
  have h2 : crsZ s a c ≤ i - crsK s a := by
    unfold crsZ crsK nearN
    by_cases h3 : a < 0
    · rw [if_pos h3]
      have h4 : ¬ (i : Int) < c := fun h => hz (.inl ⟨h3, h⟩)
      split; omega
      split <;> omega
    · rw [if_neg h3, if_neg (show ¬ ((loose s : Nat) : Int) < a by omega)]
      have h4 : ¬ (i : Int) - a < c := fun h => hz (.inr ⟨by omega, h⟩)
      split; omega
      split <;> omega
  unfold crsP
  rw [show min (i + 1) (crsK s a) = crsK s a by omega, show min i (crsK s a) = crsK s a by omega, show min (i + 1 - crsK s a) (crsZ s a c) = crsZ s a c by omega, show min (i - crsK s a) (crsZ s a c) = crsZ s a c by omega]
theorem crsP_le (s : SS) (a c : Int) (i : Nat) (hi : i ≤ loose s) (hk : s.k ≤ s.l.length) : (crsP s a c i).length ≤ s.l.length := by
  unfold crsP
  unfold loose at hi
  rw [List.length_append, List.length_take, List.length_replicate]
  omega

set_option maxRecDepth 100000 in
set_option maxHeartbeats 8000000 in
theorem rcrs_any (S : Nat → Prop) (bm : Nat) (s : SS) (a z : Int) (w : World) (h : RefAt w S bm s) (hS : ∀ i, S i → i < w.heap.size) (hk : s.k ≤ s.l.length) (hm : s.l.length ≤ 262144) (ha : -9223372036854775808 ≤ a ∧ a ≤ 9223372036854775807) :
    Calls Try.prog 24 #[.pointer (some ⟨bm, 0, none⟩), .int .i64 a, .int .i64 z] w fun e w' => e = .returned (.tuple #[]) ∧ RefAt w' S bm (crsS s a z) ∧ OnlyS (fun i => i = bm) w w' := by
  obtain ⟨⟨vS, vL, hT, ⟨AS, cS, rfl, hP, hAS⟩, ⟨AL, cL, rfl, hQ, hAL⟩⟩, hoff⟩ := h
  obtain ⟨p, hp⟩ : ∃ p, s.l.take s.k = p := ⟨_, rfl⟩
  obtain ⟨q, hq⟩ : ∃ q, s.l.drop s.k = q := ⟨_, rfl⟩
  have hqn : q.length = loose s := by rw [← hq, List.length_drop]; rfl
  have hpn : p.length = s.k := by rw [← hp, List.length_take]; omega
  obtain ⟨nL, hnL⟩ : ∃ n, q.length = n := ⟨_, rfl⟩
  rw [hp] at hT hP
  rw [hq] at hT hQ
  rw [hnL] at hT hqn
  obtain ⟨nS, hnS⟩ : ∃ n, p.length = n := ⟨_, rfl⟩
  rw [hnS] at hT hpn
  have hLn : nL ≤ 262144 := by rw [hqn]; unfold loose; omega
  have hSn : nS ≤ 262144 := by omega
  have HT := Lib.hid hT
  have HP := Lib.hid hP
  have HQ := Lib.hid hQ
  have HQE := Lib.hid hq
  have HZR : Hid (crsP s a z 0 = p) := Lib.hid (by rw [crsP_zero, hp])
  have HBM := Lib.hid hT.lt
  have HAL : Hid (∀ x, AL = some x → x.block < w.heap.size) := Lib.hid (fun x hx => (hAL x hx).1)
  have HOF := Lib.hid hoff
  have HNL := Lib.hid hnL
  have HNS := Lib.hid hnS.symm
  have HSZ := Lib.hid hS
  have HQN := Lib.hid hqn
  have HKL := Lib.hid hk
  have HM := Lib.hid hm
  have hc0 : (w.alloc (.cells #[] 5)).cell? ⟨bm, 0, none⟩ = some (.slice AS nS cS) := (hT.alloc _).cell 0
  have HB5 : Hid (Below w.heap.size w (w.alloc (.cells #[] 5))) := Lib.hid ((Below.refl _ _).alloc (Nat.le_refl _) _)
  have HL5 := Lib.hid (Own.lit0 w)
  have HP5 := Lib.hid (HP.out.below HB5.out)
  have hSi : (nS : Int) ≤ 262144 := by omega
  have hLi : (nL : Int) ≤ 262144 := by omega
  clear hT hP hQ hAS hAL hoff hp hq hqn hpn hnL hnS hS hk hm
  go_enter Try.func24, Try.ntmps24
  go_wp2_with (at_builtin; refine wpList_app rfl (.tmp 8) (.tmp 12) 27 27 rfl Try.underlying27 Try.underlying27 w.heap.size (.slice (some ⟨w.heap.size, 0, none⟩) 0 0) [] p rfl HL5.out AS nS cS rfl HNS.out HP5.out ?c1 ?c2 ?_)
  case c1 => have := HNS.out; simp; omega
  case c2 => exact HB5.out.size
  intro va W1 hOw hgp hLp
  have hBp : Below w.heap.size w W1 := HB5.out.grown hgp HB5.out.size (fun q9 hq9 => by injection hq9 with hq9; subst hq9; exact Nat.le_refl _)
  have HO1 : Hid (Own W1 w.heap.size va (crsP s a z 0)) := Lib.hid (by rw [HZR.out]; exact hOw)
  have HB1 := Lib.hid hBp
  clear hOw hgp hLp hBp hc0 HB5 HL5 HP5 HZR HNS
  go_wp2_with fail
  go_loopw [6, 7] (fun vb j wd => ∃ (i : Nat) (vx : Value), i ≤ nL ∧ j = .int .i64 i ∧ vx = vb ∧ Hid (Own wd w.heap.size vx (crsP s a z i)) ∧ Hid (Below w.heap.size w wd)) (fun _ j _ => nL - (intOf j).toNat)
  case atStart => exact ⟨0, va, Nat.zero_le _, rfl, rfl, HO1, HB1⟩
  case round =>
    clear HO1 HB1
    obtain ⟨i, vx, hi, rfl, rfl, HO, HB⟩ := hrel
    have HTr := Lib.hid (HT.out.below HB.out HT.out.lt)
    have hr1 : wr.cell? ⟨bm, 1, none⟩ = some (.slice AL nL cL) := HTr.out.cell 1
    by_cases hlt : i < nL
    · have hil : (i : Int) < (nL : Int) := by omega
      have hiL : i < loose s := by rw [← HQN.out]; exact hlt
      by_cases hka : (i : Int) < a
      · have HST := Lib.hid (crsP_keep s a z i hiL hka)
        rw [HQE.out] at HST
        obtain ⟨bl, ol, hAl, hbl, hcl⟩ : ∃ b off, AL = some ⟨b, off, none⟩ ∧ b < w.heap.size ∧ w.cell? ⟨b, off + i, none⟩ = some (.int .u8 (q.getD i 0)) := by
          rcases HQ.out.2 with h | ⟨b, off, h1, h2, h3⟩
          · exfalso; have := HNL.out; rw [h] at this; simp at this; omega
          · exact ⟨b, off, h1, h2, h3 i (by rw [HNL.out]; exact hlt)⟩
        obtain ⟨x, hx⟩ : ∃ x, q.getD i 0 = x := ⟨_, rfl⟩
        rw [hx] at hcl HST
        rw [← HB.out.cell (p := ⟨bl, ol + i, none⟩) hbl] at hcl
        subst hAl
        have hBa : Below wr.heap.size wr (wr.alloc (.cells #[.int .u8 x] 5)) := (Below.refl _ _).alloc (Nat.le_refl _) _
        have HOa := Lib.hid (HO.out.below hBa (Nat.le_refl _))
        have HBa := Lib.hid (HB.out.trans (hBa.mono HB.out.size))
        have HSa : Hid (Src (wr.alloc (.cells #[.int .u8 x] 5)) (some ⟨wr.heap.size, 0, none⟩) 1 [x]) := Lib.hid (Src.lit wr _ [x] rfl)
        have HLn : Hid ((crsP s a z i).length ≤ 262144) := Lib.hid (Nat.le_trans (crsP_le s a z i (by omega) HKL.out) HM.out)
        clear hx hBa hiL
        go_wp2_with (at_builtin; refine wpList_app rfl (.tmp 26) (.tmp 34) 27 27 rfl Try.underlying27 Try.underlying27 w.heap.size vx (crsP s a z i) [x] rfl HOa.out (some ⟨wr.heap.size, 0, none⟩) 1 1 rfl rfl HSa.out ?c1 ?c2 ?_)
        case c1 => have := HLn.out; simp; omega
        case c2 => exact HBa.out.size
        intro vn W2 hOw hgp hLp
        have HO9 : Hid (Own W2 w.heap.size vn (crsP s a z (i + 1))) := Lib.hid (by rw [HST.out]; exact hOw)
        have HB9 : Hid (Below w.heap.size w W2) := Lib.hid (HBa.out.grown hgp HBa.out.size (fun q9 hq9 => (HOa.out.lt q9 hq9).1))
        clear hOw hgp hLp HO HB HOa HBa HSa HLn HST HTr hr1 hcl
        go_wp2
        go_roundw
        case rel => exact ⟨i + 1, vn, by omega, by go_num, rfl, HO9, HB9⟩
        case measure => simp [intOf]; omega
      · by_cases hz : (a < 0 ∧ (i : Int) < z) ∨ (0 ≤ a ∧ (i : Int) - a < z)
        · have HST := Lib.hid (crsP_zeros s a z i hiL hka hz)
          have hBa : Below wr.heap.size wr (wr.alloc (.cells #[.int .u8 0] 5)) := (Below.refl _ _).alloc (Nat.le_refl _) _
          have HOa := Lib.hid (HO.out.below hBa (Nat.le_refl _))
          have HBa := Lib.hid (HB.out.trans (hBa.mono HB.out.size))
          have HSa : Hid (Src (wr.alloc (.cells #[.int .u8 0] 5)) (some ⟨wr.heap.size, 0, none⟩) 1 [0]) := Lib.hid (Src.lit wr _ [0] rfl)
          have HLn : Hid ((crsP s a z i).length ≤ 262144) := Lib.hid (Nat.le_trans (crsP_le s a z i (by omega) HKL.out) HM.out)
          clear hBa hiL
          rcases hz with ⟨h1, h2⟩ | ⟨h1, h2⟩
          · go_wp2_with (at_builtin; refine wpList_app rfl (.tmp 54) (.tmp 55) 27 27 rfl Try.underlying27 Try.underlying27 w.heap.size vx (crsP s a z i) [0] rfl HOa.out (some ⟨wr.heap.size, 0, none⟩) 1 1 rfl rfl HSa.out ?c1 ?c2 ?_)
            case c1 => have := HLn.out; simp; omega
            case c2 => have h := HBa.out.size; simpa using h
            intro vn W2 hOw hgp hLp
            have HO9 : Hid (Own W2 w.heap.size vn (crsP s a z (i + 1))) := Lib.hid (by rw [HST.out]; exact hOw)
            have HB9 : Hid (Below w.heap.size w W2) := Lib.hid (HBa.out.grown hgp HBa.out.size (fun q9 hq9 => (HOa.out.lt q9 hq9).1))
            clear hOw hgp hLp HO HB HOa HBa HSa HLn HST HTr hr1
            go_wp2
            go_roundw
            case rel => exact ⟨i + 1, vn, by omega, by go_num, rfl, HO9, HB9⟩
            case measure => simp [intOf]; omega
          · have h3 : ¬ a < 0 := by omega
            go_wp2_with (at_builtin; refine wpList_app rfl (.tmp 54) (.tmp 55) 27 27 rfl Try.underlying27 Try.underlying27 w.heap.size vx (crsP s a z i) [0] rfl HOa.out (some ⟨wr.heap.size, 0, none⟩) 1 1 rfl rfl HSa.out ?c1 ?c2 ?_)
            case c1 => have := HLn.out; simp; omega
            case c2 => have h := HBa.out.size; simpa using h
            intro vn W2 hOw hgp hLp
            have HO9 : Hid (Own W2 w.heap.size vn (crsP s a z (i + 1))) := Lib.hid (by rw [HST.out]; exact hOw)
            have HB9 : Hid (Below w.heap.size w W2) := Lib.hid (HBa.out.grown hgp HBa.out.size (fun q9 hq9 => (HOa.out.lt q9 hq9).1))
            clear hOw hgp hLp HO HB HOa HBa HSa HLn HST HTr hr1
            go_wp2
            go_roundw
            case rel => exact ⟨i + 1, vn, by omega, by go_num, rfl, HO9, HB9⟩
            case measure => simp [intOf]; omega
        · have HST := Lib.hid (crsP_none s a z i hiL hka hz)
          have HO9 : Hid (Own wr w.heap.size vx (crsP s a z (i + 1))) := Lib.hid (by rw [HST.out]; exact HO.out)
          have HB9 := HB
          clear hiL HO HB HST HTr
          by_cases h1 : a < 0
          · have h2 : ¬ (i : Int) < z := fun h => hz (.inl ⟨h1, h⟩)
            clear hz
            go_wp2
            go_roundw
            case rel => exact ⟨i + 1, vx, by omega, by go_num, rfl, HO9, HB9⟩
            case measure => simp [intOf]; omega
          · have h2 : ¬ (i : Int) - a < z := fun h => hz (.inr ⟨by omega, h⟩)
            clear hz
            go_wp2
            go_roundw
            case rel => exact ⟨i + 1, vx, by omega, by go_num, rfl, HO9, HB9⟩
            case measure => simp [intOf]; omega
    · obtain rfl : i = nL := by omega
      have HE : Hid (crsP s a z i = crsL s a z) := Lib.hid (by rw [HQN.out]; exact crsP_end s a z)
      have c0 : wr.cell? ⟨bm, 0, none⟩ = _ := HTr.out.cell 0
      have c2 : wr.cell? ⟨bm, 2, none⟩ = _ := HTr.out.cell 2
      have c4 : wr.cell? ⟨bm, 4, none⟩ = _ := HTr.out.cell 4
      simp only [List.getElem?_cons_succ, List.getElem?_cons_zero] at c0 c2 c4
      have f0 := HTr.out.frozen 0
      have f1 := HTr.out.frozen 1
      have f2 := HTr.out.frozen 2
      have f4 := HTr.out.frozen 4
      obtain ⟨Ax, cx, hvx, _⟩ := HO.out.src
      obtain ⟨N, hN⟩ : ∃ N, (crsP s a z i).length = N := ⟨_, rfl⟩
      rw [hN] at hvx
      subst hvx
      clear hN
      go_wp2
      go_end0
      have hO9 : OnlyS (fun i => i = bm) wr ((((wr.setCell ⟨bm, 0, none⟩ (.slice Ax N cx)).setCell ⟨bm, 1, none⟩ (.slice none 0 0)).setCell ⟨bm, 2, none⟩ (.int .i64 (-1))).setCell ⟨bm, 4, none⟩ (.bool false)) :=
        ((((OnlyS.refl (fun i => i = bm) wr).setCell (p := ⟨bm, 0, none⟩) (.inl rfl) _).setCell (p := ⟨bm, 1, none⟩) (.inl rfl) _).setCell (p := ⟨bm, 2, none⟩) (.inl rfl) _).setCell (p := ⟨bm, 4, none⟩) (.inl rfl) _
      refine ⟨rfl, ⟨⟨.slice Ax N cx, .slice none 0 0, (((HTr.out.set_ 0 (.slice Ax N cx)).set_ 1 (.slice none 0 0)).set_ 2 (.int .i64 (-1))).set_ 4 (.bool false), ?_, ?_⟩, HOF.out⟩, (OnlyS.of_below HB.out).trans hO9⟩
      · rw [show (crsS s a z).l.take (crsS s a z).k = crsL s a z from List.take_length, ← HE.out]
        refine RdS.own (base := w.heap.size) (HO.out.onlyS hO9 (fun g9 h9 e => by have := (HO.out.lt g9 h9).1; have := HBM.out; omega)) (fun j hj h9 => ?_)
        rcases h9 with h9 | h9
        · have := HSZ.out j h9; omega
        · have := HBM.out; omega
      · rw [show (crsS s a z).l.drop (crsS s a z).k = [] from List.drop_length]
        exact RdS.nil _ _
end Go.Proofs.Ytjkpdfdcjhnjdaa
