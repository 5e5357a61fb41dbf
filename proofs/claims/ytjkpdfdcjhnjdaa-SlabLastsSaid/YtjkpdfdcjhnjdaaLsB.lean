/-
  SlabLasts: the walk.
-/
import Derived.Test.YtjkpdfdcjhnjdaaLsA
namespace Go.Proofs.Ytjkpdfdcjhnjdaa
open Go.ChangeShapes Go.WideShapes Go.ChangeAt Go.RowKit Go.Deep
set_option linter.unusedVariables false

theorem i64_wf {x : Int} (h : (Lit.int .i64 x).wf = true) : -9223372036854775808 ≤ x ∧ x ≤ 9223372036854775807 := by
  simp [Lit.wf, IntKind.min, IntKind.max, IntKind.signed, IntKind.bits] at h
  exact ⟨by omega, by omega⟩
theorem Hid.break {P : Prop} (h : Hid P) : P := h.out

set_option maxRecDepth 100000 in
set_option maxHeartbeats 8000000 in
theorem lasts_any {H : Type} {enc : TypeId × Value → H} {base : Nat} {spare : Nat → Bool} {held : Bool} (a : Option Addr) (len cap : Nat) (w : World) (hM : FlatRow enc Try.prog w base spare held a 4 len [(0, 3), (1, 3), (2, 3), (3, 27)]) :
    Calls Try.prog 4 #[.slice a len cap] w fun e w' => e = .returned (.bool true) ∧ Below w.heap.size w w' := by
  have HM := Lib.hid hM
  have hm2 := hM.2.1
  unfold maxLen at hm2
  clear hM
  go_enter Try.func4, Try.ntmps4
  go_wp2_with fail
  refine (new_any w).mono ?_
  rintro e w1 ⟨b, rfl, hb, hA, hB⟩
  have HZ0 : Hid (Ls w w1 b (.slice none 0 0) fresh []) := Lib.hid ⟨hA, hB, rfl, Nat.le_refl _, hb⟩
  clear hb hA hB
  go_wp2_with fail
  go_loopw [4, 5, 6, 7, 8, 9, 10, 11, 12, 16] (fun t _ _ _ _ _ _ _ _ i wd => ∃ (k : Nat) (v : Value) (s : SS) (q : List Int), k ≤ 60 ∧ i = .int .i64 k ∧ t = .string (txt q) ∧ Hid (Ls w wd b v s q)) (fun _ _ _ _ _ _ _ _ _ i _ => len - (intOf i).toNat)
  case atStart => exact ⟨0, _, _, [], Nat.zero_le _, rfl, rfl, HZ0⟩
  case round =>
    clear HZ0
    obtain ⟨k, v, s, q, hk, rfl, rfl, HZ⟩ := hrel
    by_cases hlen : k < len
    · obtain ⟨b0, off, rfl, hb0, cs, hcs, hp⟩ := HM.out.row (i := k) hlen
      obtain ⟨z0, k0, w0⟩ := (hp 0 3 (by simp)).int Try.underlying3
      obtain ⟨z1, k1, w1⟩ := (hp 1 3 (by simp)).int Try.underlying3
      obtain ⟨z2, k2, w2⟩ := (hp 2 3 (by simp)).int Try.underlying3
      obtain ⟨ap, np, cp, k3, dd, pp, hT⟩ := (hp 3 27 (by simp)).slice Try.underlying27
      obtain ⟨l, hl, hS, hmx, hnil⟩ := openB hT
      have e0 : w.cell? ⟨b0, off + k * 4, none⟩ = _ := hcs 0 _ k0
      have e1 := hcs 1 _ k1
      have e2 := hcs 2 _ k2
      have e3 := hcs 3 _ k3
      rw [← HZ.out.B.cell hb0] at e0 e1 e2 e3
      have HW1 := Lib.hid (i64_wf w1)
      have HLN := Lib.hid hl
      have HS0 := Lib.hid (hS.below (w' := wr) (HZ.out.B.mono (Nat.le_refl _)))
      have hBo : Below wr.heap.size wr (wr.alloc (.cells #[.int .i64 z0, .int .i64 z1, .int .i64 z2, .slice ap np cp] 29)) := (Below.refl _ _).alloc (Nat.le_refl _) _
      have HZ1 := Lib.hid (HZ.out.keep hBo)
      have HS := Lib.hid (HS0.out.below hBo)
      have O : Hid (Blk (wr.alloc (.cells #[.int .i64 z0, .int .i64 z1, .int .i64 z2, .slice ap np cp] 29)) wr.heap.size 29 [.int .i64 z0, .int .i64 z1, .int .i64 z2, .slice ap np cp]) := Lib.hid (Blk.new wr 29 _)
      unfold maxLen at hmx
      clear hp hcs hT hl hS hnil k0 k1 k2 k3 w0 w1 w2 HZ HS0 hBo
      have HZ := HZ1
      clear HZ1
      have hki : (k : Int) < (len : Int) := by omega
      by_cases h60 : k < 60
      · have hk60 : (k : Int) < 60 := by omega
        by_cases hN : 2000 < np
        · have hN2 : (2000 : Int) < (np : Int) := by omega
          go_wp2_with fail
          refine (awake_any _).mono ?_
          rintro e w9 ⟨rfl, hB9⟩
          have HB9 := Lib.hid (HZ.out.B.trans (hB9.mono HZ.out.B.size))
          go_wp2
          go_ret
          exact ⟨rfl, HB9.out⟩
        · have hN2 : (np : Int) ≤ 2000 := by omega
          have HNP := Lib.hid (show np ≤ 2000 by omega)
          clear hN hmx
          by_cases hz0 : z0 = 0
          · skip
            subst hz0
            go_upto_region 9 with fail
            clear hN2
            generalize wr.alloc (.cells #[.int .i64 0, .int .i64 z1, .int .i64 z2, .slice ap np cp] 29) = V at HZ HS O ⊢
            generalize wr.heap.size = go at O ⊢
            have hc3 : (V.alloc (.cells #[] 5)).cell? ⟨go, 3, none⟩ = some (.slice ap np cp) := (O.out.alloc _).cell 3
            have HB5 : Hid (Below V.heap.size V (V.alloc (.cells #[] 5))) := Lib.hid ((Below.refl _ _).alloc (Nat.le_refl _) _)
            have HS5 := Lib.hid (HS.out.below HB5.out)
            have HL5 := Lib.hid (Own.lit0 V)
            go_wp2_with (at_builtin; refine wpList_app rfl (.tmp 33) (.tmp 35) 27 27 rfl Try.underlying27 Try.underlying27 V.heap.size (.slice (some ⟨V.heap.size, 0, none⟩) 0 0) [] l rfl HL5.out ap np cp rfl HLN.out HS5.out ?c1 ?c2 ?_)
            case c1 => have := HLN.out; have := HNP.out; simp; omega
            case c2 => exact HB5.out.size
            intro vp W1 hOp hgp hLp
            have hBp : Below V.heap.size V W1 := HB5.out.grown hgp HB5.out.size (fun q9 hq9 => by injection hq9 with hq9; subst hq9; exact Nat.le_refl _)
            have HZ1 := Lib.hid (HZ.out.keep hBp)
            have hbV : b < V.heap.size := HZ.out.A.top.lt
            have hVb : ∀ i, Of b v i → i < V.heap.size := HZ.out.A.lt
            have HOp := Lib.hid hOp
            obtain ⟨Ap, cx, hvp, hSp⟩ := hOp.src
            rw [← HLN.out] at hvp
            subst hvp
            have HSp := Lib.hid hSp
            have HApb : Hid (∀ a, Ap = some a → V.heap.size ≤ a.block) := Lib.hid (by rintro a rfl; exact (HOp.out.lt a.block rfl).1)
            have HVW := Lib.hid hBp.size
            have HBV := Lib.hid hbV
            have HVB := Lib.hid hVb
            clear hc3 HB5 HS5 HL5 hOp hgp hLp hBp hSp HZ HS O hbV hVb
            go_wp2_with fail
            refine (app_any w.heap.size b v s l Ap np cx W1 HZ1.out.A HLN.out HSp.out (fun a ha => by have := HApb.out a ha; have := HBV.out; omega) HZ1.out.B.size (by have := HLN.out; have := HNP.out; omega)).mono ?_
            rintro e W2 ⟨v2, rfl, hA2, ho2, hL2⟩
            have HZ2 := Lib.hid (HZ1.out.app hA2 ho2)
            have HOp2 : Hid (Own W2 V.heap.size (.slice Ap np cx) l) := Lib.hid (HOp.out.onlyS ho2 (fun g hg hof => by have h1 := (HOp.out.lt g hg).1; have h2 := HVB.out g hof; omega))
            have HD2 : Hid (∀ g, (Value.slice Ap np cx).ownBlock = some g → ¬ Of b v2 g) := Lib.hid (by
              rintro g hg (h1 | h1)
              · have h2 := (HOp.out.lt g hg).1; have h3 := HBV.out; omega
              · rcases hL2 with h4 | ⟨g2, h5, h6⟩
                · have h2 := (HOp.out.lt g hg).1
                  have h3 := HVB.out g (.inr (by rw [← h4]; exact h1))
                  omega
                · rw [h1] at h6
                  injection h6 with h6
                  have h7 := (HOp.out.lt g hg).2
                  omega)
            have HVb2 : Hid (w.heap.size ≤ V.heap.size) := Lib.hid (Nat.le_trans HZ1.out.ub (Nat.le_of_lt HBV.out))
            obtain ⟨s2, hs2⟩ : ∃ s2, appS s l = s2 := ⟨_, rfl⟩
            rw [hs2] at HZ2
            clear hs2 hA2 ho2 hL2 HZ1 HOp HSp HApb HVB HBV HVW
            have hnp9 : (np : Int) ≤ 2000 := by have := HNP.out; omega
            go_wp2_with fail
            go_loopw [8, 42] (fun _ j wd => ∃ (jn : Nat) (lp : List Int), jn ≤ np ∧ j = .int .i64 jn ∧ lp.length = np ∧ Hid (Own wd V.heap.size (.slice Ap np cx) lp) ∧ Hid (Ls w wd b v2 s2 q)) (fun _ j _ => np - (intOf j).toNat)
            case atStart => exact ⟨0, l, Nat.zero_le _, rfl, HLN.out.symm, HOp2, HZ2⟩
            case round =>
              clear HZ2 HOp2
              obtain ⟨jn, lp, hjn, rfl, hlp, HO, HZ⟩ := hrel
              by_cases hj : jn < np
              · obtain ⟨g, hg⟩ : ∃ g, Ap = some ⟨g, 0, none⟩ := by
                  rcases HO.out.2 with ⟨h1, h0⟩ | ⟨g, cap9, cur, h1, _⟩
                  · omega
                  · injection h1 with h1
                    exact ⟨g, h1⟩
                subst hg
                have hcl : wr.cell? ⟨g, jn, none⟩ = some (.int .u8 (lp.getD jn 0)) := by
                  obtain ⟨A9, c9, h9, hS9⟩ := HO.out.src
                  injection h9 with h9 h10 h11
                  subst h9
                  rcases hS9.2 with h12 | ⟨b9, o9, h12, _, h13⟩
                  · rw [h12] at hlp; simp at hlp; omega
                  · injection h12 with h12
                    injection h12 with h12 h14
                    subst h12 h14
                    simpa using h13 jn (by omega)
                have hfr : wr.frozen? ⟨g, jn, none⟩ = false := by
                  rcases HO.out.2 with ⟨h1, h0⟩ | ⟨g9, cap9, cur, h1, _, hg9, _⟩
                  · cases h1
                  · injection h1 with h1
                    injection h1 with h1
                    injection h1 with h1
                    subst h1
                    simp [World.frozen?, hg9]
                have HLP := Lib.hid hlp
                have hjl : (jn : Int) < (np : Int) := by omega
                obtain ⟨x, hx⟩ : ∃ x, lp.getD jn 0 = x := ⟨_, rfl⟩
                rw [hx] at hcl
                clear hx hlp
                go_wp2
                go_roundw
                case rel => exact ⟨jn + 1, lp.set jn _, by omega, by go_num, by rw [List.length_set]; exact HLP.out, Lib.hid (HO.out.set jn _ (by rw [HLP.out]; exact hj)), Lib.hid (HZ.out.onlyS ((OnlyS.refl (fun i => i = g) wr).setCell (p := ⟨g, jn, none⟩) (.inl rfl) _) (fun i hi e => HD2.out g rfl (e ▸ hi)) (by rintro i rfl; exact Nat.le_trans HVb2.out (HO.out.lt _ rfl).1))⟩
                case measure => simp [intOf]; omega
              · have hjl : (np : Int) ≤ (jn : Int) := by omega
                have HZ9 := HZ
                clear HO HD2
                go_wp2
                go_roundw
                case rel => exact ⟨k + 1, v2, s2, q, by omega, by go_num, rfl, HZ9⟩
                case measure => simp [intOf]; omega
          · skip
            by_cases hz1 : z0 = 1
            · skip
              subst hz1
              go_upto_region 17 with fail
              clear hN2
              generalize wr.alloc (.cells #[.int .i64 1, .int .i64 z1, .int .i64 z2, .slice ap np cp] 29) = V at HZ HS O ⊢
              generalize wr.heap.size = go at O ⊢
              clear HS
              clear O
              go_wp2_with fail
              refine (syn_any w.heap.size b v s V HZ.out.A).mono ?_
              rintro e W1 ⟨rfl, hA, ho⟩
              rcases stepE_cases s 0 with ⟨h0, _⟩ | h0 | h0
              · have HZ1 := Lib.hid (HZ.out.synOk h0 hA ho)
                obtain ⟨hl1, hd1⟩ := syn_ok s h0
                have HL1 := Lib.hid hl1
                have HD1 := Lib.hid hd1
                rw [h0]
                clear h0 hA ho HZ hl1 hd1
                go_wp2_with fail
                refine (rea_any w.heap.size b v _ W1 HZ1.out.A).mono ?_
                rintro e W2 ⟨A, N, c, rfl, hN, hS, hNc, hcm, hAn, hB⟩
                rw [HD1.out, show chkE false = 0 from rfl]
                rw [HD1.out, if_neg (by decide), HL1.out] at hS hN
                have hst := to_string W2 A c N s.l hN hS
                have HZ9 := Lib.hid (HZ1.out.keep hB)
                clear hN hS hNc hcm hAn hB HZ1 HL1 HD1
                go_wp2
                go_roundw
                case rel => exact ⟨k + 1, v, synS s, s.l, by omega, by go_num, rfl, HZ9⟩
                case measure => simp [intOf]; omega
              all_goals
                have HZ9 := Lib.hid (HZ.out.synNo (by rw [h0]; decide) hA ho)
                rw [h0]
                clear h0 hA ho HZ
                go_wp2
                go_roundw
                case rel => exact ⟨k + 1, v, synS s, q, by omega, by go_num, rfl, HZ9⟩
                case measure => simp [intOf]; omega
            · skip
              by_cases hz2 : z0 = 2
              · skip
                subst hz2
                go_upto_region 21 with fail
                clear hN2
                generalize wr.alloc (.cells #[.int .i64 2, .int .i64 z1, .int .i64 z2, .slice ap np cp] 29) = V at HZ HS O ⊢
                generalize wr.heap.size = go at O ⊢
                clear HS
                clear O
                go_wp2_with fail
                refine (era_any w.heap.size b v s V HZ.out.A).mono ?_
                rintro e W1 ⟨rfl, hA, ho⟩
                rcases stepE_cases s 0 with ⟨h0, _⟩ | h0 | h0
                · have HZ9 := Lib.hid (HZ.out.eraOk h0 hA ho)
                  rw [h0]
                  clear h0 hA ho HZ
                  go_wp2
                  go_roundw
                  case rel => exact ⟨k + 1, _, _, [], by omega, by go_num, rfl, HZ9⟩
                  case measure => simp [intOf]; omega
                all_goals
                  have HZ9 := Lib.hid (HZ.out.eraNo (by rw [h0]; decide) hA ho)
                  rw [h0]
                  clear h0 hA ho HZ
                  go_wp2
                  go_roundw
                  case rel => exact ⟨k + 1, v, eraS s, q, by omega, by go_num, rfl, HZ9⟩
                  case measure => simp [intOf]; omega
              · skip
                by_cases hz3 : z0 = 3
                · skip
                  subst hz3
                  go_upto_region 24 with fail
                  clear hN2
                  generalize wr.alloc (.cells #[.int .i64 3, .int .i64 z1, .int .i64 z2, .slice ap np cp] 29) = V at HZ HS O ⊢
                  generalize wr.heap.size = go at O ⊢
                  clear HS
                  have o1 : V.cell? ⟨go, 1, none⟩ = some (.int .i64 z1) := O.out.cell 1
                  go_wp2_with fail
                  clear o1 O
                  refine (fus_any w.heap.size b v s z1 V HZ.out.A HW1.out.2).mono ?_
                  rintro e W1 ⟨rfl, hA, ho⟩
                  have HZ9 := Lib.hid (HZ.out.fus hA ho)
                  clear hA ho HZ
                  go_wp2
                  go_roundw
                  case rel => exact ⟨k + 1, v, fusS s z1, q, by omega, by go_num, rfl, HZ9⟩
                  case measure => simp [intOf]; omega
                · skip
                  by_cases hz4 : z0 = 4
                  · skip
                    subst hz4
                    go_upto_region 26 with fail
                    clear hN2
                    generalize wr.alloc (.cells #[.int .i64 4, .int .i64 z1, .int .i64 z2, .slice ap np cp] 29) = V at HZ HS O ⊢
                    generalize wr.heap.size = go at O ⊢
                    clear HS
                    have o1 : V.cell? ⟨go, 1, none⟩ = some (.int .i64 z1) := O.out.cell 1
                    have o2 : V.cell? ⟨go, 2, none⟩ = some (.int .i64 z2) := O.out.cell 2
                    go_wp2_with fail
                    clear o1 o2 O
                    refine (crs_any w.heap.size b v s z1 z2 V HZ.out.A HZ.out.B.size).mono ?_
                    rintro e W1 ⟨v2, rfl, hA, ho, _⟩
                    have HZ1 := Lib.hid (HZ.out.crs hA ho)
                    have HPR := Lib.hid (HZ.out.crsPre z1 z2)
                    clear hA ho HZ
                    go_wp2_with fail
                    refine (rea_any w.heap.size b v2 _ W1 HZ1.out.A).mono ?_
                    rintro e W2 ⟨A, N, c, rfl, hN, hS, hNc, hcm, hAn, hB⟩
                    rw [show chkE (crsS s z1 z2).dn = 0 from rfl]
                    rw [show (crsS s z1 z2).dn = false from rfl, if_neg (by decide), show (crsS s z1 z2).l = crsL s z1 z2 from rfl] at hS hN
                    have hst := to_string W2 A c N (crsL s z1 z2) hN hS
                    have hQ := take_le HPR.out
                    obtain ⟨T, hT⟩ : ∃ T, txt q = T := ⟨_, rfl⟩
                    have hTs : T.size = q.length := by rw [← hT]; exact txt_size q
                    have hTN : T.size ≤ N := by omega
                    have hTI : (T.size : Int) ≤ (N : Int) := by omega
                    have hTc : T.size ≤ c := by omega
                    have hsl := cutLo A N c T.size hTc W2
                    have hst2 : (convert 27 9 (.slice A T.size c)).run Try.prog W2 = .ok (.string T) W2 := by
                      have h := to_string W2 A c T.size ((crsL s z1 z2).take q.length) (by rw [List.length_take]; omega) hS.take
                      rw [HPR.out, hT] at h
                      exact h
                    have HZ2 := Lib.hid (HZ1.out.keep hB)
                    have HSx := Lib.hid hS
                    have HNx := Lib.hid hN
                    have HLO := Lib.hid (loo_any w.heap.size b v2 _ W2 HZ2.out.A)
                    rw [show loose (crsS s z1 z2) = 0 from Nat.sub_self _] at HLO
                    rw [hT]
                    clear hN hS hNc hcm hAn hB HZ1 HPR hQ hT hTs hTN hTc
                    go_wp2_with fail
                    refine HLO.out.mono ?_
                    rintro e W3 ⟨rfl, n3, rfl⟩
                    have hB3 : Below W2.heap.size W2 (W2.drewN n3) := below_drewN (Below.refl _ _) _
                    have HZ9 := Lib.hid (HZ2.out.keep hB3)
                    have hst3 : (convert 27 9 (.slice A N c)).run Try.prog (W2.drewN n3) = .ok (.string (txt (crsL s z1 z2))) (W2.drewN n3) := to_string _ A c N _ HNx.out (HSx.out.below hB3)
                    clear hB3 HSx HNx HZ2 HLO hst hst2 hsl hTI
                    go_wp2
                    go_roundw
                    case rel => exact ⟨k + 1, v2, crsS s z1 z2, crsL s z1 z2, by omega, by go_num, rfl, HZ9⟩
                    case measure => simp [intOf]; omega
                  · skip
                    have HZ9 := HZ
                    clear HS O HZ
                    go_wp2
                    go_roundw
                    case rel => exact ⟨k + 1, v, s, q, by omega, by go_num, rfl, HZ9⟩
                    case measure => simp [intOf]; omega
      · have hk60 : (60 : Int) ≤ (k : Int) := by omega
        go_wp2_with fail
        refine (awake_any _).mono ?_
        rintro e w9 ⟨rfl, hB9⟩
        have HB9 := Lib.hid (HZ.out.B.trans (hB9.mono HZ.out.B.size))
        go_wp2
        go_ret
        exact ⟨rfl, HB9.out⟩
    · have hlen2 : (len : Int) ≤ (k : Int) := by omega
      go_wp2_with fail
      refine (awake_any _).mono ?_
      rintro e w9 ⟨rfl, hB9⟩
      have HB9 := Lib.hid (HZ.out.B.trans (hB9.mono HZ.out.B.size))
      go_wp2
      go_ret
      exact ⟨rfl, HB9.out⟩
end Go.Proofs.Ytjkpdfdcjhnjdaa
