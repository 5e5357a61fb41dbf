/-
  CodeTexts: the law's walk.
-/
import Derived.Test.YtkilajobnlagbaaDoorCodFJ
import Derived.Test.YtkilajobnlagbaaDoorCodT
namespace Go.Proofs.YtkilajobnlagbaaDoor
open Go.RowKit
set_option linter.unusedVariables false

theorem pg_below {w w' : World} {A : Option Addr} {n c : Nat} {p : List Int} (h : Pg w A n c p) (hB : Below w.heap.size w w') : Pg w' A n c p := { h with src := h.src.below hB }

set_option maxRecDepth 100000 in
set_option maxHeartbeats 4000000 in
theorem codeTexts_walk (A : Option Addr) (n c : Nat) (p : List Int) (t : ByteArray) (W : World) (HM : Hid (MCell W)) (HT : Hid (KTab W)) (HPT : Hid (PTab W)) (HE3 : Hid (ECell 3 W)) (HE4 : Hid (ECell 4 W)) (HP : Hid (Pg W A n c p)) :
    Calls Tryd.prog 4 #[.slice A n c, .string t] W fun e W1 => e = .returned (.bool true) ∧ Below W.heap.size W W1 := by
  have HTX := Lib.hid (fun w h1 h2 h3 => text_any A n c p w h1 h2 h3)
  have HRX := Lib.hid (fun w h1 => rtext_any A n c p w h1)
  have HPA := Lib.hid (fun w h1 h2 h3 h4 h5 => parse_any t w h1 h2 h3 h4 h5)
  have HRP := Lib.hid (fun w => rparse_any (Lib.hid fun s w hs => rline_any s w hs) t w)
  have HCK := Lib.hid (fun w h1 h2 => check_any A n c p w h1 h2)
  have HRC := Lib.hid (fun w h1 => rcheck_any A n c p w h1)
  obtain ⟨S, hS⟩ : ∃ x, textV p = x := ⟨_, rfl⟩
  obtain ⟨E, hE⟩ : ∃ x, (ordsV p).1 = x := ⟨_, rfl⟩
  obtain ⟨F, hF⟩ : ∃ x, (parseV t).1 = x := ⟨_, rfl⟩
  obtain ⟨Y, hY⟩ : ∃ x, (parseV t).2 = x := ⟨_, rfl⟩
  rw [hS, hE] at HTX HRX
  rw [hE] at HCK HRC
  rw [hF, hY] at HPA HRP
  clear hS hE hF hY
  have hss : (S.toList == S.toList) = true := by simp
  go_enter Tryd.func4, Tryd.ntmps4
  go_wp2_with fail
  refine (HTX.out W HP HT HPT).mono ?_
  rintro e w1 ⟨rfl, hB⟩
  have HB1 : Hid (Below W.heap.size W w1) := Lib.hid (hB)
  have HP1 : Hid (Pg w1 A n c p) := Lib.hid (pg_below HP.out HB1.out)
  have HM1 : Hid (MCell w1) := Lib.hid (HM.out.below HB1.out)
  have HT1 : Hid (KTab w1) := Lib.hid (HT.out.below HB1.out HT.out.lt)
  have HPT1 : Hid (PTab w1) := Lib.hid (PTab.below HPT.out HB1.out)
  have HE31 : Hid (ECell 3 w1) := Lib.hid (HE3.out.below HB1.out)
  have HE41 : Hid (ECell 4 w1) := Lib.hid (HE4.out.below HB1.out)
  clear hB
  clear HTX
  go_wp2_with fail
  refine (HRX.out w1 HP1).mono ?_
  rintro e w2 ⟨rfl, hB⟩
  have HB2 : Hid (Below W.heap.size W w2) := Lib.hid (HB1.out.trans (hB.mono HB1.out.size))
  have HP2 : Hid (Pg w2 A n c p) := Lib.hid (pg_below HP.out HB2.out)
  have HM2 : Hid (MCell w2) := Lib.hid (HM.out.below HB2.out)
  have HT2 : Hid (KTab w2) := Lib.hid (HT.out.below HB2.out HT.out.lt)
  have HPT2 : Hid (PTab w2) := Lib.hid (PTab.below HPT.out HB2.out)
  have HE32 : Hid (ECell 3 w2) := Lib.hid (HE3.out.below HB2.out)
  have HE42 : Hid (ECell 4 w2) := Lib.hid (HE4.out.below HB2.out)
  clear hB
  clear HB1 HP1 HM1 HT1 HPT1 HE31 HE41
  clear HRX
  go_wp2_with fail
  refine (HPA.out w2 HM2 HT2 HPT2 HE32 HE42).mono ?_
  rintro e w3 ⟨vx, rfl, hO, hB⟩
  obtain ⟨Ax, cx, rfl, hsx⟩ := Oct.Own.src hO
  have HX3 := Lib.hid hsx
  have HB3 : Hid (Below W.heap.size W w3) := Lib.hid (HB2.out.trans (hB.mono HB2.out.size))
  have HP3 : Hid (Pg w3 A n c p) := Lib.hid (pg_below HP.out HB3.out)
  have HM3 : Hid (MCell w3) := Lib.hid (HM.out.below HB3.out)
  have HT3 : Hid (KTab w3) := Lib.hid (HT.out.below HB3.out HT.out.lt)
  have HPT3 : Hid (PTab w3) := Lib.hid (PTab.below HPT.out HB3.out)
  have HE33 : Hid (ECell 3 w3) := Lib.hid (HE3.out.below HB3.out)
  have HE43 : Hid (ECell 4 w3) := Lib.hid (HE4.out.below HB3.out)
  clear hB
  clear HB2 HP2 HM2 HT2 HPT2 HE32 HE42
  obtain ⟨k, hk⟩ : ∃ k, Y.length = k := ⟨_, rfl⟩
  rw [hk]
  have HK := Lib.hid hk
  clear HPA hO hsx hk
  go_wp2_with fail
  refine (HRP.out w3).mono ?_
  rintro e w4 ⟨vy, rfl, hO, hB⟩
  obtain ⟨Ay, cy, rfl, hsy⟩ := Oct.Own.src hO
  rw [HK.out]
  have HX4 := Lib.hid (HX3.out.below hB)
  have HY4 := Lib.hid hsy
  have HB4 : Hid (Below W.heap.size W w4) := Lib.hid (HB3.out.trans (hB.mono HB3.out.size))
  have HP4 : Hid (Pg w4 A n c p) := Lib.hid (pg_below HP.out HB4.out)
  have HM4 : Hid (MCell w4) := Lib.hid (HM.out.below HB4.out)
  have HT4 : Hid (KTab w4) := Lib.hid (HT.out.below HB4.out HT.out.lt)
  have HPT4 : Hid (PTab w4) := Lib.hid (PTab.below HPT.out HB4.out)
  have HE34 : Hid (ECell 3 w4) := Lib.hid (HE3.out.below HB4.out)
  have HE44 : Hid (ECell 4 w4) := Lib.hid (HE4.out.below HB4.out)
  clear hB
  clear HB3 HP3 HM3 HT3 HPT3 HE33 HE43
  clear HRP hO hsy HX3
  go_wp2_with fail
  refine (awake_any w4 HM4 HT4 HPT4).mono ?_
  rintro e w5 ⟨rfl, hB⟩
  have HX5 := Lib.hid (HX4.out.below hB)
  have HY5 := Lib.hid (HY4.out.below hB)
  have HB5 : Hid (Below W.heap.size W w5) := Lib.hid (HB4.out.trans (hB.mono HB4.out.size))
  have HP5 : Hid (Pg w5 A n c p) := Lib.hid (pg_below HP.out HB5.out)
  have HM5 : Hid (MCell w5) := Lib.hid (HM.out.below HB5.out)
  have HT5 : Hid (KTab w5) := Lib.hid (HT.out.below HB5.out HT.out.lt)
  have HPT5 : Hid (PTab w5) := Lib.hid (PTab.below HPT.out HB5.out)
  have HE35 : Hid (ECell 3 w5) := Lib.hid (HE3.out.below HB5.out)
  have HE45 : Hid (ECell 4 w5) := Lib.hid (HE4.out.below HB5.out)
  clear hB
  clear HB4 HP4 HM4 HT4 HPT4 HE34 HE44
  clear HX4 HY4
  go_wp2_with fail
  refine (HCK.out w5 HP5 HT5).mono ?_
  rintro e w6 ⟨rfl, hB⟩
  have HX6 := Lib.hid (HX5.out.below hB)
  have HY6 := Lib.hid (HY5.out.below hB)
  have HB6 : Hid (Below W.heap.size W w6) := Lib.hid (HB5.out.trans (hB.mono HB5.out.size))
  have HP6 : Hid (Pg w6 A n c p) := Lib.hid (pg_below HP.out HB6.out)
  have HM6 : Hid (MCell w6) := Lib.hid (HM.out.below HB6.out)
  have HT6 : Hid (KTab w6) := Lib.hid (HT.out.below HB6.out HT.out.lt)
  have HPT6 : Hid (PTab w6) := Lib.hid (PTab.below HPT.out HB6.out)
  have HE36 : Hid (ECell 3 w6) := Lib.hid (HE3.out.below HB6.out)
  have HE46 : Hid (ECell 4 w6) := Lib.hid (HE4.out.below HB6.out)
  clear hB
  clear HB5 HP5 HM5 HT5 HPT5 HE35 HE45
  clear HX5 HY5
  go_wp2_with fail
  refine (HRC.out w6 HP6).mono ?_
  rintro e w7 ⟨rfl, hB⟩
  have HX7 := Lib.hid (HX6.out.below hB)
  have HY7 := Lib.hid (HY6.out.below hB)
  have HB7 : Hid (Below W.heap.size W w7) := Lib.hid (HB6.out.trans (hB.mono HB6.out.size))
  have HP7 : Hid (Pg w7 A n c p) := Lib.hid (pg_below HP.out HB7.out)
  have HM7 : Hid (MCell w7) := Lib.hid (HM.out.below HB7.out)
  have HT7 : Hid (KTab w7) := Lib.hid (HT.out.below HB7.out HT.out.lt)
  have HPT7 : Hid (PTab w7) := Lib.hid (PTab.below HPT.out HB7.out)
  have HE37 : Hid (ECell 3 w7) := Lib.hid (HE3.out.below HB7.out)
  have HE47 : Hid (ECell 4 w7) := Lib.hid (HE4.out.below HB7.out)
  clear hB
  clear HB6 HP6 HM6 HT6 HPT6 HE36 HE46
  clear HX6 HY6
  have cx1 := conv_any w7 Ax k cx Y HK.out HX7.out
  have cy1 := conv_any w7 Ay k cy Y HK.out HY7.out
  have cx2 := conv_drew w7 Ax k cx Y HK.out HX7.out
  have cy2 := conv_drew w7 Ay k cy Y HK.out HY7.out
  obtain ⟨Z, hZ⟩ : ∃ z, txtI Y = z := ⟨_, rfl⟩
  rw [hZ] at cx1 cy1 cx2 cy2
  clear hZ
  have hzz : (Z.toList == Z.toList) = true := by simp
  go_wp2_with fail
  go_ret
  exact ⟨rfl, HB7.out⟩
end Go.Proofs.YtkilajobnlagbaaDoor
