/-
  tollhouselaw07.WebBoth returns true for every input: each channel is a step of both its ends; who reaches by more reaches by less, and itself; nothing that was there is written.
-/
import Derived.Test.YtnnimjaigciedaaWebBo
import Derived.Test.YtnnimjaigciedaaWebArg
import Derived.Test.YtnnimjaigciedaaRows
import Derived.BigQuiet
namespace Go.Proofs.Ytnnimjaigciedaa.webBoth
open Go.ChangeShapes Go.WideShapes Go.ChangeAt Go.RowKit
set_option linter.unusedVariables false

def Ok (w : World) (e : Ending) (w' : World) : Prop := e = .returned (.bool true) ∧ Below w.heap.size w w'
set_option maxRecDepth 100000 in
set_option maxHeartbeats 4000000 in
theorem both_dark (sa0 : Option Addr) (sl sc0 : Nat) (ea0 : Option Addr) (el ec0 : Nat) (node amt less : Int) (w : World) (hl : lightB sl el = false) :
    Calls Try.prog 7 #[.agg #[.slice sa0 sl sc0, .slice ea0 el ec0], .int .i64 node, .int .u64 amt, .int .u64 less] w (Ok w) := by
  have HL := Lib.hid (fun w => light_any sa0 sl sc0 ea0 el ec0 w)
  rw [hl] at HL
  have HP0 : Hid (Blk (w.alloc (.cells #[.slice sa0 sl sc0, .slice ea0 el ec0] 25)) w.heap.size 25 [.slice sa0 sl sc0, .slice ea0 el ec0]) := Lib.hid (Blk.new w 25 [.slice sa0 sl sc0, .slice ea0 el ec0])
  have B0 : Hid (Below w.heap.size w (w.alloc (.cells #[.slice sa0 sl sc0, .slice ea0 el ec0] 25))) := Lib.hid ((Below.refl _ _).alloc (Nat.le_refl _) _)
  clear hl
  go_enter Try.func7, Try.ntmps7
  have p0 : (w.alloc (.cells #[.slice sa0 sl sc0, .slice ea0 el ec0] 25)).cell? ⟨w.heap.size, 0, none⟩ = some (.slice sa0 sl sc0) := HP0.out.cell 0
  have p1 : (w.alloc (.cells #[.slice sa0 sl sc0, .slice ea0 el ec0] 25)).cell? ⟨w.heap.size, 1, none⟩ = some (.slice ea0 el ec0) := HP0.out.cell 1
  go_wp2_with fail
  clear p0 p1
  refine (HL.out _).mono ?_
  rintro e Y ⟨rfl, hB⟩
  have B1 := Lib.hid (B0.out.trans (hB.mono B0.out.size))
  clear hB B0
  go_wp2_with fail
  refine (wawake_any _).mono ?_
  rintro e Y2 ⟨rfl, hB⟩
  have B2 := Lib.hid (B1.out.trans (hB.mono B1.out.size))
  clear hB B1
  go_wp2
  go_ret
  exact ⟨rfl, B2.out⟩

set_option maxRecDepth 100000 in
set_option maxHeartbeats 8000000 in
theorem both_bad (sa0 : Option Addr) (sl sc0 : Nat) (ea0 : Option Addr) (el ec0 : Nat) (sp : List (Int × Int)) (es : List Ed) (node amt less : Int) (w : World) (hl : lightB sl el = true) (hsl : sp.length = sl) (hel : es.length = el) (hS : SpotRow w sa0 sp) (hE : EdgeRow w ea0 es) (hok : ∀ e ∈ es, EdOk e) (hc : checkE sl es ≠ 0) :
    Calls Try.prog 7 #[.agg #[.slice sa0 sl sc0, .slice ea0 el ec0], .int .i64 node, .int .u64 amt, .int .u64 less] w (Ok w) := by
  have HL := Lib.hid (fun w => light_any sa0 sl sc0 ea0 el ec0 w)
  rw [hl] at HL
  have hlt : sl ≤ 20 ∧ el ≤ 30 := by unfold lightB at hl; exact of_decide_eq_true hl
  obtain ⟨hs20, he30⟩ := hlt
  have HSL := Lib.hid hsl
  have HEL := Lib.hid hel
  have HOK := Lib.hid hok
  have B0 : Hid (Below w.heap.size w (w.alloc (.cells #[.slice sa0 sl sc0, .slice ea0 el ec0] 25))) := Lib.hid ((Below.refl _ _).alloc (Nat.le_refl _) _)
  have HP0 : Hid (Blk (w.alloc (.cells #[.slice sa0 sl sc0, .slice ea0 el ec0] 25)) w.heap.size 25 [.slice sa0 sl sc0, .slice ea0 el ec0]) := Lib.hid (Blk.new w 25 [.slice sa0 sl sc0, .slice ea0 el ec0])
  have HS0 := Lib.hid hS
  have HE0 := Lib.hid hE
  have HCC := Lib.hid hc
  clear hl hsl hel hok hS hE
  go_enter Try.func7, Try.ntmps7
  have p0 : (w.alloc (.cells #[.slice sa0 sl sc0, .slice ea0 el ec0] 25)).cell? ⟨w.heap.size, 0, none⟩ = some (.slice sa0 sl sc0) := HP0.out.cell 0
  have p1 : (w.alloc (.cells #[.slice sa0 sl sc0, .slice ea0 el ec0] 25)).cell? ⟨w.heap.size, 1, none⟩ = some (.slice ea0 el ec0) := HP0.out.cell 1
  go_wp2_with fail
  clear p0 p1
  refine (HL.out _).mono ?_
  rintro e V1 ⟨rfl, hB⟩
  have P1 := Lib.hid (HP0.out.below hB HP0.out.lt)
  have B1 := Lib.hid (B0.out.trans (hB.mono B0.out.size))
  clear hB B0 HL HP0
  obtain ⟨gp, hgp⟩ : ∃ gp, w.heap.size = gp := ⟨_, rfl⟩
  have p0 : V1.cell? ⟨w.heap.size, 0, none⟩ = some (.slice sa0 sl sc0) := P1.out.cell 0
  have p1 : V1.cell? ⟨w.heap.size, 1, none⟩ = some (.slice ea0 el ec0) := P1.out.cell 1
  rw [hgp] at P1 p0 p1 ⊢
  have HGP := Lib.hid hgp
  clear hgp
  go_wp2_with fail
  clear p0 p1
  refine (wto_any sa0 sl sc0 ea0 el ec0 sp es V1 (HS0.out.below B1.out) (HE0.out.below B1.out) HSL.out HEL.out hs20 he30).mono ?_
  rintro e V2 ⟨sa1, sc1, ea1, ec1, rfl, hS1, hE1, hn1, hn2, hB⟩
  have P2 := Lib.hid (P1.out.below hB P1.out.lt)
  have B2 := Lib.hid (B1.out.trans (hB.mono B1.out.size))
  have HE1 := Lib.hid hE1
  clear hB P1 B1 hE1 hn1 hn2 hS1
  have hBo : Below V2.heap.size V2 (V2.alloc (.cells #[.slice sa1 sl sc1, .slice ea1 el ec1] 31)) := (Below.refl _ _).alloc (Nat.le_refl _) _
  have Q3 : Hid (Blk (V2.alloc (.cells #[.slice sa1 sl sc1, .slice ea1 el ec1] 31)) V2.heap.size 31 [.slice sa1 sl sc1, .slice ea1 el ec1]) := Lib.hid (Blk.new _ _ [.slice sa1 sl sc1, .slice ea1 el ec1])
  have P3 := Lib.hid (P2.out.below hBo P2.out.lt)
  have B3 := Lib.hid (B2.out.trans (hBo.mono B2.out.size))
  have E3 := Lib.hid (HE1.out.below hBo)
  clear hBo P2 B2 HE1 HS0 HE0
  go_upto_region 4 with fail
  generalize V2.alloc (.cells #[.slice sa1 sl sc1, .slice ea1 el ec1] 31) = V3 at Q3 P3 B3 E3 ⊢
  generalize V2.heap.size = gq at Q3 ⊢
  have q0 : V3.cell? ⟨gq, 0, none⟩ = some (.slice sa1 sl sc1) := Q3.out.cell 0
  have q1 : V3.cell? ⟨gq, 1, none⟩ = some (.slice ea1 el ec1) := Q3.out.cell 1
  go_wp2_with fail
  clear q0 q1
  refine (check_any sa1 sl sc1 ea1 el ec1 es V3 E3.out HEL.out (by omega) (by omega)).mono ?_
  rintro e V4 ⟨rfl, hB⟩
  have Q4 := Lib.hid (Q3.out.below hB Q3.out.lt)
  have P4 := Lib.hid (P3.out.below hB P3.out.lt)
  have B4 := Lib.hid (B3.out.trans (hB.mono B3.out.size))
  have E4 := Lib.hid (E3.out.below hB)
  clear hB Q3 P3 B3 E3
  obtain ⟨ck, hck⟩ : ∃ ck, checkE sl es = ck := ⟨_, rfl⟩
  have HST : Hid (stepsL sl es node 0 = []) := Lib.hid (by unfold stepsL; rw [if_neg hc])
  rw [hck] at hc ⊢
  have bc : (ck != 0) = true := by simpa using hc
  clear hck
  have q0 : V4.cell? ⟨gq, 0, none⟩ = some (.slice sa1 sl sc1) := Q4.out.cell 0
  have q1 : V4.cell? ⟨gq, 1, none⟩ = some (.slice ea1 el ec1) := Q4.out.cell 1
  go_wp2_with fail
  clear q0 q1 bc hc
  refine (wawake_any _).mono ?_
  rintro e V5 ⟨rfl, hB⟩
  have Q5 := Lib.hid (Q4.out.below hB Q4.out.lt)
  have B5 := Lib.hid (B4.out.trans (hB.mono B4.out.size))
  have E5 := Lib.hid (E4.out.below hB)
  clear hB Q4 P4 B4 E4
  have q0 : V5.cell? ⟨gq, 0, none⟩ = some (.slice sa1 sl sc1) := Q5.out.cell 0
  have q1 : V5.cell? ⟨gq, 1, none⟩ = some (.slice ea1 el ec1) := Q5.out.cell 1
  go_wp2_with fail
  clear q0 q1
  refine (StepsPost.rows (steps_any sa1 sl sc1 ea1 el ec1 es node V5 E5.out HEL.out (by omega) (by omega))).mono ?_
  rintro e V6 ⟨la, lc, rfl, hL, hlc, hB⟩
  rw [HST.out]
  have Q6 := Lib.hid (Q5.out.below hB Q5.out.lt)
  have B6 := Lib.hid (B5.out.trans (hB.mono B5.out.size))
  have E6 := Lib.hid (E5.out.below hB)
  clear hB Q5 B5 E5 hL hlc HST
  have q0 : V6.cell? ⟨gq, 0, none⟩ = some (.slice sa1 sl sc1) := Q6.out.cell 0
  have q1 : V6.cell? ⟨gq, 1, none⟩ = some (.slice ea1 el ec1) := Q6.out.cell 1
  go_wp2_with fail
  clear q0 q1
  refine (reach_any sa1 sl sc1 ea1 el ec1 es node amt V6 E6.out HEL.out (by omega) (by omega)).mono ?_
  rintro e V7 ⟨ma, mc, m, rfl, hR, hI, hB⟩
  rw [reach_none HCC.out hR]
  have B7 := Lib.hid (B6.out.trans (hB.mono B6.out.size))
  clear hB Q6 B6 E6 hR hI
  go_wp2
  go_ret
  exact ⟨rfl, B7.out⟩

set_option maxRecDepth 100000 in
set_option maxHeartbeats 8000000 in
theorem both_good (sa0 : Option Addr) (sl sc0 : Nat) (ea0 : Option Addr) (el ec0 : Nat) (sp : List (Int × Int)) (es : List Ed) (node amt less : Int) (w : World) (hl : lightB sl el = true) (hsl : sp.length = sl) (hel : es.length = el) (hS : SpotRow w sa0 sp) (hE : EdgeRow w ea0 es) (hok : ∀ e ∈ es, EdOk e) (hc : checkE sl es = 0) :
    Calls Try.prog 7 #[.agg #[.slice sa0 sl sc0, .slice ea0 el ec0], .int .i64 node, .int .u64 amt, .int .u64 less] w (Ok w) := by
  have HL := Lib.hid (fun w => light_any sa0 sl sc0 ea0 el ec0 w)
  rw [hl] at HL
  have hlt : sl ≤ 20 ∧ el ≤ 30 := by unfold lightB at hl; exact of_decide_eq_true hl
  obtain ⟨hs20, he30⟩ := hlt
  have HSL := Lib.hid hsl
  have HEL := Lib.hid hel
  have HOK := Lib.hid hok
  have B0 : Hid (Below w.heap.size w (w.alloc (.cells #[.slice sa0 sl sc0, .slice ea0 el ec0] 25))) := Lib.hid ((Below.refl _ _).alloc (Nat.le_refl _) _)
  have HP0 : Hid (Blk (w.alloc (.cells #[.slice sa0 sl sc0, .slice ea0 el ec0] 25)) w.heap.size 25 [.slice sa0 sl sc0, .slice ea0 el ec0]) := Lib.hid (Blk.new w 25 [.slice sa0 sl sc0, .slice ea0 el ec0])
  have HS0 := Lib.hid hS
  have HE0 := Lib.hid hE
  have HCC := Lib.hid hc
  clear hl hsl hel hok hS hE
  go_enter Try.func7, Try.ntmps7
  have p0 : (w.alloc (.cells #[.slice sa0 sl sc0, .slice ea0 el ec0] 25)).cell? ⟨w.heap.size, 0, none⟩ = some (.slice sa0 sl sc0) := HP0.out.cell 0
  have p1 : (w.alloc (.cells #[.slice sa0 sl sc0, .slice ea0 el ec0] 25)).cell? ⟨w.heap.size, 1, none⟩ = some (.slice ea0 el ec0) := HP0.out.cell 1
  go_wp2_with fail
  clear p0 p1
  refine (HL.out _).mono ?_
  rintro e V1 ⟨rfl, hB⟩
  have P1 := Lib.hid (HP0.out.below hB HP0.out.lt)
  have B1 := Lib.hid (B0.out.trans (hB.mono B0.out.size))
  clear hB B0 HL HP0
  obtain ⟨gp, hgp⟩ : ∃ gp, w.heap.size = gp := ⟨_, rfl⟩
  have p0 : V1.cell? ⟨w.heap.size, 0, none⟩ = some (.slice sa0 sl sc0) := P1.out.cell 0
  have p1 : V1.cell? ⟨w.heap.size, 1, none⟩ = some (.slice ea0 el ec0) := P1.out.cell 1
  rw [hgp] at P1 p0 p1 ⊢
  have HGP := Lib.hid hgp
  clear hgp
  go_wp2_with fail
  clear p0 p1
  refine (wto_any sa0 sl sc0 ea0 el ec0 sp es V1 (HS0.out.below B1.out) (HE0.out.below B1.out) HSL.out HEL.out hs20 he30).mono ?_
  rintro e V2 ⟨sa1, sc1, ea1, ec1, rfl, hS1, hE1, hn1, hn2, hB⟩
  have P2 := Lib.hid (P1.out.below hB P1.out.lt)
  have B2 := Lib.hid (B1.out.trans (hB.mono B1.out.size))
  have HE1 := Lib.hid hE1
  clear hB P1 B1 hE1 hn1 hn2 hS1
  have hBo : Below V2.heap.size V2 (V2.alloc (.cells #[.slice sa1 sl sc1, .slice ea1 el ec1] 31)) := (Below.refl _ _).alloc (Nat.le_refl _) _
  have Q3 : Hid (Blk (V2.alloc (.cells #[.slice sa1 sl sc1, .slice ea1 el ec1] 31)) V2.heap.size 31 [.slice sa1 sl sc1, .slice ea1 el ec1]) := Lib.hid (Blk.new _ _ [.slice sa1 sl sc1, .slice ea1 el ec1])
  have P3 := Lib.hid (P2.out.below hBo P2.out.lt)
  have B3 := Lib.hid (B2.out.trans (hBo.mono B2.out.size))
  have E3 := Lib.hid (HE1.out.below hBo)
  clear hBo P2 B2 HE1 HS0 HE0
  go_upto_region 4 with fail
  generalize V2.alloc (.cells #[.slice sa1 sl sc1, .slice ea1 el ec1] 31) = V3 at Q3 P3 B3 E3 ⊢
  generalize V2.heap.size = gq at Q3 ⊢
  have q0 : V3.cell? ⟨gq, 0, none⟩ = some (.slice sa1 sl sc1) := Q3.out.cell 0
  have q1 : V3.cell? ⟨gq, 1, none⟩ = some (.slice ea1 el ec1) := Q3.out.cell 1
  go_wp2_with fail
  clear q0 q1
  refine (check_any sa1 sl sc1 ea1 el ec1 es V3 E3.out HEL.out (by omega) (by omega)).mono ?_
  rintro e V4 ⟨rfl, hB⟩
  have Q4 := Lib.hid (Q3.out.below hB Q3.out.lt)
  have P4 := Lib.hid (P3.out.below hB P3.out.lt)
  have B4 := Lib.hid (B3.out.trans (hB.mono B3.out.size))
  have E4 := Lib.hid (E3.out.below hB)
  clear hB Q3 P3 B3 E3
  rw [hc]
  obtain ⟨hgood, hs8, he16⟩ := good_at hc
  have HGD := Lib.hid hgood
  rw [HEL.out] at he16
  have heI : (el : Int) ≤ 16 := by omega
  have hsI : (sl : Int) ≤ 8 := by omega
  clear hgood hc
  have q0 : V4.cell? ⟨gq, 0, none⟩ = some (.slice sa1 sl sc1) := Q4.out.cell 0
  have q1 : V4.cell? ⟨gq, 1, none⟩ = some (.slice ea1 el ec1) := Q4.out.cell 1
  go_wp2_with fail
  clear q0 q1
  go_loopw [51] (fun s51 wd => ∃ i : Nat, i ≤ el ∧ s51 = .int .i64 (i : Int) ∧ Hid (Blk wd gq 31 [.slice sa1 sl sc1, .slice ea1 el ec1]) ∧ Hid (Blk wd gp 25 [.slice sa0 sl sc0, .slice ea0 el ec0]) ∧ Hid (EdgeRow wd ea1 es) ∧ Hid (Below w.heap.size w wd)) (fun i _ => el - (intOf i).toNat)
  case atStart => exact ⟨0, Nat.zero_le _, rfl, Q4, P4, E4, B4⟩
  case round =>
    clear Q4 P4 E4 B4
    obtain ⟨i, hi, rfl, Qi, Pi, Ei, Bi⟩ := hrel
    obtain ⟨wi, hwi⟩ : ∃ wi : World, wr = wi := ⟨_, rfl⟩
    rw [hwi] at Qi Pi Ei Bi ⊢
    clear hwi
    by_cases hlt : i < el
    · have hiI : (i : Int) < (el : Int) := by omega
      have hiS : i < es.length := by rw [HEL.out]; exact hlt
      obtain ⟨be, oe, hea, hce⟩ := Ei.out.at_ hiS
      obtain ⟨p, q, c, d, f, g, h, u, hx⟩ : ∃ p q c d f g h u, es.getD i ed0 = ⟨p, q, c, d, f, g, h, u⟩ := ⟨_, _, _, _, _, _, _, _, rfl⟩
      rw [hx] at hce
      have HED := Lib.hid hx
      have HIS := Lib.hid hiS
      have HEA := Lib.hid hea
      have e0 : wi.cell? ⟨be, oe + i * 8, none⟩ = some (.int .i64 p) := hce.2 0 _ rfl
      have e1 : wi.cell? ⟨be, oe + i * 8 + 1, none⟩ = some (.int .i64 q) := hce.2 1 _ rfl
      have e2 : wi.cell? ⟨be, oe + i * 8 + 2, none⟩ = some (.int .u64 c) := hce.2 2 _ rfl
      have e3 : wi.cell? ⟨be, oe + i * 8 + 3, none⟩ = some (.int .u64 d) := hce.2 3 _ rfl
      have e4 : wi.cell? ⟨be, oe + i * 8 + 4, none⟩ = some (.int .u64 f) := hce.2 4 _ rfl
      have e5 : wi.cell? ⟨be, oe + i * 8 + 5, none⟩ = some (.int .u64 g) := hce.2 5 _ rfl
      have e6 : wi.cell? ⟨be, oe + i * 8 + 6, none⟩ = some (.int .u64 h) := hce.2 6 _ rfl
      have e7 : wi.cell? ⟨be, oe + i * 8 + 7, none⟩ = some (.int .u64 u) := hce.2 7 _ rfl
      subst hea
      clear hce hx hiS
      have hBo : Below wi.heap.size wi (wi.alloc (.cells #[.int .i64 p, .int .i64 q, .int .u64 c, .int .u64 d, .int .u64 f, .int .u64 g, .int .u64 h, .int .u64 u] 52)) := (Below.refl _ _).alloc (Nat.le_refl _) _
      have O0 : Hid (Blk (wi.alloc (.cells #[.int .i64 p, .int .i64 q, .int .u64 c, .int .u64 d, .int .u64 f, .int .u64 g, .int .u64 h, .int .u64 u] 52)) wi.heap.size 52 [.int .i64 p, .int .i64 q, .int .u64 c, .int .u64 d, .int .u64 f, .int .u64 g, .int .u64 h, .int .u64 u]) := Lib.hid (Blk.new wi 52 _)
      have Q0 := Lib.hid (Qi.out.below hBo Qi.out.lt)
      have P0 := Lib.hid (Pi.out.below hBo Pi.out.lt)
      have E0 := Lib.hid (Ei.out.below hBo)
      have B0 := Lib.hid (Bi.out.trans (hBo.mono Bi.out.size))
      clear hBo Qi Pi Ei Bi
      go_upto_region 9 with fail
      clear e0 e1 e2 e3 e4 e5 e6 e7
      generalize wi.alloc (.cells #[.int .i64 p, .int .i64 q, .int .u64 c, .int .u64 d, .int .u64 f, .int .u64 g, .int .u64 h, .int .u64 u] 52) = X0 at O0 Q0 P0 E0 B0 ⊢
      generalize wi.heap.size = go at O0 ⊢
      have o0 : X0.cell? ⟨go, 0, none⟩ = some (.int .i64 p) := O0.out.cell 0
      have o1 : X0.cell? ⟨go, 1, none⟩ = some (.int .i64 q) := O0.out.cell 1
      go_wp2_with fail
      clear o0 o1
      obtain ⟨ea1, hea1⟩ : ∃ ea1 : Option Addr, ea1 = some ⟨be, oe, none⟩ := ⟨_, rfl⟩
      go_loopw [58] (fun s58 wd => ∃ k : Int, (k = 0 ∨ k = 1 ∨ k = 2) ∧ s58 = .int .i64 k ∧ Hid (Blk wd gq 31 [.slice sa1 sl sc1, .slice (some ⟨be, oe, none⟩) el ec1]) ∧ Hid (Blk wd gp 25 [.slice sa0 sl sc0, .slice ea0 el ec0]) ∧ Hid (EdgeRow wd (some ⟨be, oe, none⟩) es) ∧ Hid (Blk wd go 52 [.int .i64 p, .int .i64 q, .int .u64 c, .int .u64 d, .int .u64 f, .int .u64 g, .int .u64 h, .int .u64 u]) ∧ Hid (Below w.heap.size w wd)) (fun k _ => 2 - (intOf k).toNat)
      case atStart => exact ⟨0, Or.inl rfl, rfl, Q0, P0, E0, O0, B0⟩
      case round =>
        clear Q0 P0 E0 O0 B0
        obtain ⟨k, hk, rfl, Qk, Pk, Ek, Ok_, Bk⟩ := hrel
        obtain ⟨wk, hwk⟩ : ∃ wk : World, wr = wk := ⟨_, rfl⟩
        rw [hwk] at Qk Pk Ek Ok_ Bk ⊢
        clear hwk hea1 ea1
        rcases hk with rfl | rfl | rfl
        · skip
          obtain ⟨S, hSS⟩ : ∃ S, stepsL sl es p 0 = S := ⟨_, rfl⟩
          have HCT : Hid (0 + (S.drop 0).countP (hitB i q c) = 1) := Lib.hid (by rw [List.drop_zero, Nat.zero_add, ← hSS]; exact hits_p (e := ⟨p, q, c, d, f, g, h, u⟩) HCC.out HOK.out HIS.out HED.out)
          have hm30 : S.length ≤ 30 := by rw [← hSS]; have := HEL.out; have h2 := stepsL_length (sl := sl) (es := es) (node := p) (amt := 0); omega
          have HSS := Lib.hid hSS
          clear hSS
          obtain ⟨m, hm⟩ : ∃ m, S.length = m := ⟨_, rfl⟩
          rw [hm] at hm30
          have hmI : (m : Int) ≤ 30 := by omega
          have HMM := Lib.hid hm
          clear hm
          have q0 : wk.cell? ⟨gq, 0, none⟩ = some (.slice sa1 sl sc1) := Qk.out.cell 0
          have q1 : wk.cell? ⟨gq, 1, none⟩ = some (.slice (some ⟨be, oe, none⟩) el ec1) := Qk.out.cell 1
          have i0 : ∀ w, (Instr.index 48 (.agg #[.int .i64 p, .int .i64 q]) (.int .i64 0)).run Try.prog w = .ok (.int .i64 p) w := fun _ => by kernel_rfl
          go_wp2_with fail
          clear q0 q1 i0
          refine (StepsPost.rows (steps_any sa1 sl sc1 (some ⟨be, oe, none⟩) el ec1 es p wk Ek.out HEL.out (by omega) (by omega))).mono ?_
          rintro e X1 ⟨la, lc, rfl, hL, hlc, hB⟩
          rw [HSS.out] at hL ⊢
          rw [HMM.out]
          have Q1 := Lib.hid (Qk.out.below hB Qk.out.lt)
          have P1 := Lib.hid (Pk.out.below hB Pk.out.lt)
          have B1 := Lib.hid (Bk.out.trans (hB.mono Bk.out.size))
          have E1 := Lib.hid (Ek.out.below hB)
          have O1 := Lib.hid (Ok_.out.below hB Ok_.out.lt)
          have L1 := Lib.hid hL
          clear hB Qk Pk Bk Ek Ok_ hL hlc
          go_wp2_with fail
          go_loopw [14, 66] (fun s14 s66 wd => ∃ (j a : Nat), j ≤ m ∧ s14 = .int .i64 (a : Int) ∧ s66 = .int .i64 (j : Int) ∧ Hid (a + (S.drop j).countP (hitB i q c) = 1) ∧ Hid (StpRow wd la S) ∧ Hid (Blk wd gq 31 [.slice sa1 sl sc1, .slice (some ⟨be, oe, none⟩) el ec1]) ∧ Hid (Blk wd gp 25 [.slice sa0 sl sc0, .slice ea0 el ec0]) ∧ Hid (EdgeRow wd (some ⟨be, oe, none⟩) es) ∧ Hid (Blk wd go 52 [.int .i64 p, .int .i64 q, .int .u64 c, .int .u64 d, .int .u64 f, .int .u64 g, .int .u64 h, .int .u64 u]) ∧ Hid (Below w.heap.size w wd)) (fun _ j _ => m - (intOf j).toNat)
          case atStart => exact ⟨0, 0, Nat.zero_le _, rfl, rfl, HCT, L1, Q1, P1, E1, O1, B1⟩
          case round =>
            clear HCT L1 Q1 P1 E1 O1 B1
            obtain ⟨j, a, hj, rfl, rfl, HA, Lr, Qr, Pr, Er, Or_, Br⟩ := hrel
            obtain ⟨wj, hwj⟩ : ∃ wj : World, wr = wj := ⟨_, rfl⟩
            rw [hwj] at Lr Qr Pr Er Or_ Br ⊢
            clear hwj
            have ha1 : (a : Int) ≤ 1 := by have := HA.out; omega
            by_cases hlj : j < m
            · have hjI : (j : Int) < (m : Int) := by omega
              have hjS : j < S.length := by rw [HMM.out]; exact hlj
              obtain ⟨bl, ol, rfl, hcl⟩ := Lr.out.at_ hjS
              obtain ⟨s0, hs0⟩ : ∃ s0, S.getD j stp00 = s0 := ⟨_, rfl⟩
              rw [hs0] at hcl
              obtain ⟨e9, t9, c9, b9, r9⟩ := s0
              have HST := Lib.hid (hit_step hjS hs0 HA.out)
              have e0 : wj.cell? ⟨bl, ol + j * 5, none⟩ = some (.int .i64 e9) := hcl.2 0 _ rfl
              have e1 : wj.cell? ⟨bl, ol + j * 5 + 1, none⟩ = some (.int .i64 t9) := hcl.2 1 _ rfl
              have e2 : wj.cell? ⟨bl, ol + j * 5 + 2, none⟩ = some (.int .u64 c9) := hcl.2 2 _ rfl
              have e3 : wj.cell? ⟨bl, ol + j * 5 + 3, none⟩ = some (.int .u64 b9) := hcl.2 3 _ rfl
              have e4 : wj.cell? ⟨bl, ol + j * 5 + 4, none⟩ = some (.int .u64 r9) := hcl.2 4 _ rfl
              clear hcl hs0 hjS HA
              have hBo : Below wj.heap.size wj (wj.alloc (.cells #[.int .i64 e9, .int .i64 t9, .int .u64 c9, .int .u64 b9, .int .u64 r9] 44)) := (Below.refl _ _).alloc (Nat.le_refl _) _
              have N2 : Hid (Blk (wj.alloc (.cells #[.int .i64 e9, .int .i64 t9, .int .u64 c9, .int .u64 b9, .int .u64 r9] 44)) wj.heap.size 44 [.int .i64 e9, .int .i64 t9, .int .u64 c9, .int .u64 b9, .int .u64 r9]) := Lib.hid (Blk.new wj 44 _)
              have L2 := Lib.hid (Lr.out.below hBo)
              have Q2 := Lib.hid (Qr.out.below hBo Qr.out.lt)
              have P2 := Lib.hid (Pr.out.below hBo Pr.out.lt)
              have E2 := Lib.hid (Er.out.below hBo)
              have O2 := Lib.hid (Or_.out.below hBo Or_.out.lt)
              have B2 := Lib.hid (Br.out.trans (hBo.mono Br.out.size))
              clear hBo Lr Qr Pr Er Or_ Br
              go_upto_region 16 with fail
              clear e0 e1 e2 e3 e4
              generalize wj.alloc (.cells #[.int .i64 e9, .int .i64 t9, .int .u64 c9, .int .u64 b9, .int .u64 r9] 44) = X2 at N2 L2 Q2 P2 E2 O2 B2 ⊢
              generalize wj.heap.size = gs at N2 ⊢
              have n0 : X2.cell? ⟨gs, 0, none⟩ = some (.int .i64 e9) := N2.out.cell 0
              have n1 : X2.cell? ⟨gs, 1, none⟩ = some (.int .i64 t9) := N2.out.cell 1
              have n2 : X2.cell? ⟨gs, 2, none⟩ = some (.int .u64 c9) := N2.out.cell 2
              have o1 : X2.cell? ⟨go, 1, none⟩ = some (.int .i64 q) := O2.out.cell 1
              have o2 : X2.cell? ⟨go, 2, none⟩ = some (.int .u64 c) := O2.out.cell 2
              have HBq : Hid (∀ n, Below X2.heap.size X2 (X2.drewN n)) := Lib.hid (fun n => below_drewN (Below.refl _ _) n)
              clear N2
              by_cases h1 : e9 = (i : Int)
              · by_cases h2 : t9 = q
                · by_cases h3 : c9 = c
                  · have d1 : (e9 == (i : Int)) = true := by simpa using h1
                    have f1 : decide (e9 = (i : Int)) = true := decide_eq_true h1
                    have d2 : (t9 == q) = true := by simpa using h2
                    have f2 : decide (t9 = q) = true := decide_eq_true h2
                    have d3 : (c9 == c) = true := by simpa using h3
                    have f3 : decide (c9 = c) = true := decide_eq_true h3
                    have HA := Lib.hid (HST.out.1 ⟨h1, h2, h3⟩)
                    clear HST h1 h2 h3
                    go_quiet (fail)
                    clear d1 d2 d3 f1 f2 f3 n0 n1 n2 o1 o2
                    go_wp2
                    go_roundw
                    case rel => exact ⟨j + 1, a + 1, by omega, by go_num, by go_num, HA, Lib.hid (L2.out.below (HBq.out _)), Lib.hid (Q2.out.below (HBq.out _) Q2.out.lt), Lib.hid (P2.out.below (HBq.out _) P2.out.lt), Lib.hid (E2.out.below (HBq.out _)), Lib.hid (O2.out.below (HBq.out _) O2.out.lt), Lib.hid (B2.out.trans ((HBq.out _).mono B2.out.size))⟩
                    case measure => simp [intOf]; omega
                  · have d1 : (e9 == (i : Int)) = true := by simpa using h1
                    have f1 : decide (e9 = (i : Int)) = true := decide_eq_true h1
                    have d2 : (t9 == q) = true := by simpa using h2
                    have f2 : decide (t9 = q) = true := decide_eq_true h2
                    have d3 : (c9 == c) = false := by simpa using h3
                    have f3 : decide (c9 = c) = false := decide_eq_false h3
                    have HA := Lib.hid (HST.out.2 (fun k => h3 k.2.2))
                    clear HST h1 h2 h3
                    go_quiet (fail)
                    clear d1 d2 d3 f1 f2 f3 n0 n1 n2 o1 o2
                    go_wp2
                    go_roundw
                    case rel => exact ⟨j + 1, a, by omega, rfl, by go_num, HA, Lib.hid (L2.out.below (HBq.out _)), Lib.hid (Q2.out.below (HBq.out _) Q2.out.lt), Lib.hid (P2.out.below (HBq.out _) P2.out.lt), Lib.hid (E2.out.below (HBq.out _)), Lib.hid (O2.out.below (HBq.out _) O2.out.lt), Lib.hid (B2.out.trans ((HBq.out _).mono B2.out.size))⟩
                    case measure => simp [intOf]; omega
                · have d1 : (e9 == (i : Int)) = true := by simpa using h1
                  have f1 : decide (e9 = (i : Int)) = true := decide_eq_true h1
                  have d2 : (t9 == q) = false := by simpa using h2
                  have f2 : decide (t9 = q) = false := decide_eq_false h2
                  have HA := Lib.hid (HST.out.2 (fun k => h2 k.2.1))
                  clear HST h1 h2
                  go_quiet (fail)
                  clear d1 d2 f1 f2 n0 n1 n2 o1 o2
                  go_wp2
                  go_roundw
                  case rel => exact ⟨j + 1, a, by omega, rfl, by go_num, HA, Lib.hid (L2.out.below (HBq.out _)), Lib.hid (Q2.out.below (HBq.out _) Q2.out.lt), Lib.hid (P2.out.below (HBq.out _) P2.out.lt), Lib.hid (E2.out.below (HBq.out _)), Lib.hid (O2.out.below (HBq.out _) O2.out.lt), Lib.hid (B2.out.trans ((HBq.out _).mono B2.out.size))⟩
                  case measure => simp [intOf]; omega
              · have d1 : (e9 == (i : Int)) = false := by simpa using h1
                have f1 : decide (e9 = (i : Int)) = false := decide_eq_false h1
                have HA := Lib.hid (HST.out.2 (fun k => h1 k.1))
                clear HST h1
                go_quiet (fail)
                clear d1 f1 n0 n1 n2 o1 o2
                go_wp2
                go_roundw
                case rel => exact ⟨j + 1, a, by omega, rfl, by go_num, HA, Lib.hid (L2.out.below (HBq.out _)), Lib.hid (Q2.out.below (HBq.out _) Q2.out.lt), Lib.hid (P2.out.below (HBq.out _) P2.out.lt), Lib.hid (E2.out.below (HBq.out _)), Lib.hid (O2.out.below (HBq.out _) O2.out.lt), Lib.hid (B2.out.trans ((HBq.out _).mono B2.out.size))⟩
                case measure => simp [intOf]; omega
            · obtain rfl : j = m := by omega
              obtain rfl : a = 1 := by have h := HA.out; rw [← HMM.out, List.drop_length] at h; simpa using h
              clear HA Lr
              go_wp2
              go_roundw
              case rel => exact ⟨1, Or.inr (Or.inl rfl), by first | rfl | go_num, Qr, Pr, Er, Or_, Br⟩
              case measure => simp [intOf]
        · skip
          obtain ⟨S, hSS⟩ : ∃ S, stepsL sl es q 0 = S := ⟨_, rfl⟩
          have HCT : Hid (0 + (S.drop 0).countP (hitB i p d) = 1) := Lib.hid (by rw [List.drop_zero, Nat.zero_add, ← hSS]; exact hits_q (e := ⟨p, q, c, d, f, g, h, u⟩) HCC.out HOK.out HIS.out HED.out)
          have hm30 : S.length ≤ 30 := by rw [← hSS]; have := HEL.out; have h2 := stepsL_length (sl := sl) (es := es) (node := q) (amt := 0); omega
          have HSS := Lib.hid hSS
          clear hSS
          obtain ⟨m, hm⟩ : ∃ m, S.length = m := ⟨_, rfl⟩
          rw [hm] at hm30
          have hmI : (m : Int) ≤ 30 := by omega
          have HMM := Lib.hid hm
          clear hm
          have q0 : wk.cell? ⟨gq, 0, none⟩ = some (.slice sa1 sl sc1) := Qk.out.cell 0
          have q1 : wk.cell? ⟨gq, 1, none⟩ = some (.slice (some ⟨be, oe, none⟩) el ec1) := Qk.out.cell 1
          have i0 : ∀ w, (Instr.index 48 (.agg #[.int .i64 p, .int .i64 q]) (.int .i64 1)).run Try.prog w = .ok (.int .i64 q) w := fun _ => by kernel_rfl
          go_wp2_with fail
          clear q0 q1 i0
          refine (StepsPost.rows (steps_any sa1 sl sc1 (some ⟨be, oe, none⟩) el ec1 es q wk Ek.out HEL.out (by omega) (by omega))).mono ?_
          rintro e X1 ⟨la, lc, rfl, hL, hlc, hB⟩
          rw [HSS.out] at hL ⊢
          rw [HMM.out]
          have Q1 := Lib.hid (Qk.out.below hB Qk.out.lt)
          have P1 := Lib.hid (Pk.out.below hB Pk.out.lt)
          have B1 := Lib.hid (Bk.out.trans (hB.mono Bk.out.size))
          have E1 := Lib.hid (Ek.out.below hB)
          have O1 := Lib.hid (Ok_.out.below hB Ok_.out.lt)
          have L1 := Lib.hid hL
          clear hB Qk Pk Bk Ek Ok_ hL hlc
          go_wp2_with fail
          go_loopw [14, 66] (fun s14 s66 wd => ∃ (j a : Nat), j ≤ m ∧ s14 = .int .i64 (a : Int) ∧ s66 = .int .i64 (j : Int) ∧ Hid (a + (S.drop j).countP (hitB i p d) = 1) ∧ Hid (StpRow wd la S) ∧ Hid (Blk wd gq 31 [.slice sa1 sl sc1, .slice (some ⟨be, oe, none⟩) el ec1]) ∧ Hid (Blk wd gp 25 [.slice sa0 sl sc0, .slice ea0 el ec0]) ∧ Hid (EdgeRow wd (some ⟨be, oe, none⟩) es) ∧ Hid (Blk wd go 52 [.int .i64 p, .int .i64 q, .int .u64 c, .int .u64 d, .int .u64 f, .int .u64 g, .int .u64 h, .int .u64 u]) ∧ Hid (Below w.heap.size w wd)) (fun _ j _ => m - (intOf j).toNat)
          case atStart => exact ⟨0, 0, Nat.zero_le _, rfl, rfl, HCT, L1, Q1, P1, E1, O1, B1⟩
          case round =>
            clear HCT L1 Q1 P1 E1 O1 B1
            obtain ⟨j, a, hj, rfl, rfl, HA, Lr, Qr, Pr, Er, Or_, Br⟩ := hrel
            obtain ⟨wj, hwj⟩ : ∃ wj : World, wr = wj := ⟨_, rfl⟩
            rw [hwj] at Lr Qr Pr Er Or_ Br ⊢
            clear hwj
            have ha1 : (a : Int) ≤ 1 := by have := HA.out; omega
            by_cases hlj : j < m
            · have hjI : (j : Int) < (m : Int) := by omega
              have hjS : j < S.length := by rw [HMM.out]; exact hlj
              obtain ⟨bl, ol, rfl, hcl⟩ := Lr.out.at_ hjS
              obtain ⟨s0, hs0⟩ : ∃ s0, S.getD j stp00 = s0 := ⟨_, rfl⟩
              rw [hs0] at hcl
              obtain ⟨e9, t9, c9, b9, r9⟩ := s0
              have HST := Lib.hid (hit_step hjS hs0 HA.out)
              have e0 : wj.cell? ⟨bl, ol + j * 5, none⟩ = some (.int .i64 e9) := hcl.2 0 _ rfl
              have e1 : wj.cell? ⟨bl, ol + j * 5 + 1, none⟩ = some (.int .i64 t9) := hcl.2 1 _ rfl
              have e2 : wj.cell? ⟨bl, ol + j * 5 + 2, none⟩ = some (.int .u64 c9) := hcl.2 2 _ rfl
              have e3 : wj.cell? ⟨bl, ol + j * 5 + 3, none⟩ = some (.int .u64 b9) := hcl.2 3 _ rfl
              have e4 : wj.cell? ⟨bl, ol + j * 5 + 4, none⟩ = some (.int .u64 r9) := hcl.2 4 _ rfl
              clear hcl hs0 hjS HA
              have hBo : Below wj.heap.size wj (wj.alloc (.cells #[.int .i64 e9, .int .i64 t9, .int .u64 c9, .int .u64 b9, .int .u64 r9] 44)) := (Below.refl _ _).alloc (Nat.le_refl _) _
              have N2 : Hid (Blk (wj.alloc (.cells #[.int .i64 e9, .int .i64 t9, .int .u64 c9, .int .u64 b9, .int .u64 r9] 44)) wj.heap.size 44 [.int .i64 e9, .int .i64 t9, .int .u64 c9, .int .u64 b9, .int .u64 r9]) := Lib.hid (Blk.new wj 44 _)
              have L2 := Lib.hid (Lr.out.below hBo)
              have Q2 := Lib.hid (Qr.out.below hBo Qr.out.lt)
              have P2 := Lib.hid (Pr.out.below hBo Pr.out.lt)
              have E2 := Lib.hid (Er.out.below hBo)
              have O2 := Lib.hid (Or_.out.below hBo Or_.out.lt)
              have B2 := Lib.hid (Br.out.trans (hBo.mono Br.out.size))
              clear hBo Lr Qr Pr Er Or_ Br
              go_upto_region 16 with fail
              clear e0 e1 e2 e3 e4
              generalize wj.alloc (.cells #[.int .i64 e9, .int .i64 t9, .int .u64 c9, .int .u64 b9, .int .u64 r9] 44) = X2 at N2 L2 Q2 P2 E2 O2 B2 ⊢
              generalize wj.heap.size = gs at N2 ⊢
              have n0 : X2.cell? ⟨gs, 0, none⟩ = some (.int .i64 e9) := N2.out.cell 0
              have n1 : X2.cell? ⟨gs, 1, none⟩ = some (.int .i64 t9) := N2.out.cell 1
              have n2 : X2.cell? ⟨gs, 2, none⟩ = some (.int .u64 c9) := N2.out.cell 2
              have o1 : X2.cell? ⟨go, 0, none⟩ = some (.int .i64 p) := O2.out.cell 0
              have o2 : X2.cell? ⟨go, 3, none⟩ = some (.int .u64 d) := O2.out.cell 3
              have HBq : Hid (∀ n, Below X2.heap.size X2 (X2.drewN n)) := Lib.hid (fun n => below_drewN (Below.refl _ _) n)
              clear N2
              by_cases h1 : e9 = (i : Int)
              · by_cases h2 : t9 = p
                · by_cases h3 : c9 = d
                  · have d1 : (e9 == (i : Int)) = true := by simpa using h1
                    have f1 : decide (e9 = (i : Int)) = true := decide_eq_true h1
                    have d2 : (t9 == p) = true := by simpa using h2
                    have f2 : decide (t9 = p) = true := decide_eq_true h2
                    have d3 : (c9 == d) = true := by simpa using h3
                    have f3 : decide (c9 = d) = true := decide_eq_true h3
                    have HA := Lib.hid (HST.out.1 ⟨h1, h2, h3⟩)
                    clear HST h1 h2 h3
                    go_quiet (fail)
                    clear d1 d2 d3 f1 f2 f3 n0 n1 n2 o1 o2
                    go_wp2
                    go_roundw
                    case rel => exact ⟨j + 1, a + 1, by omega, by go_num, by go_num, HA, Lib.hid (L2.out.below (HBq.out _)), Lib.hid (Q2.out.below (HBq.out _) Q2.out.lt), Lib.hid (P2.out.below (HBq.out _) P2.out.lt), Lib.hid (E2.out.below (HBq.out _)), Lib.hid (O2.out.below (HBq.out _) O2.out.lt), Lib.hid (B2.out.trans ((HBq.out _).mono B2.out.size))⟩
                    case measure => simp [intOf]; omega
                  · have d1 : (e9 == (i : Int)) = true := by simpa using h1
                    have f1 : decide (e9 = (i : Int)) = true := decide_eq_true h1
                    have d2 : (t9 == p) = true := by simpa using h2
                    have f2 : decide (t9 = p) = true := decide_eq_true h2
                    have d3 : (c9 == d) = false := by simpa using h3
                    have f3 : decide (c9 = d) = false := decide_eq_false h3
                    have HA := Lib.hid (HST.out.2 (fun k => h3 k.2.2))
                    clear HST h1 h2 h3
                    go_quiet (fail)
                    clear d1 d2 d3 f1 f2 f3 n0 n1 n2 o1 o2
                    go_wp2
                    go_roundw
                    case rel => exact ⟨j + 1, a, by omega, rfl, by go_num, HA, Lib.hid (L2.out.below (HBq.out _)), Lib.hid (Q2.out.below (HBq.out _) Q2.out.lt), Lib.hid (P2.out.below (HBq.out _) P2.out.lt), Lib.hid (E2.out.below (HBq.out _)), Lib.hid (O2.out.below (HBq.out _) O2.out.lt), Lib.hid (B2.out.trans ((HBq.out _).mono B2.out.size))⟩
                    case measure => simp [intOf]; omega
                · have d1 : (e9 == (i : Int)) = true := by simpa using h1
                  have f1 : decide (e9 = (i : Int)) = true := decide_eq_true h1
                  have d2 : (t9 == p) = false := by simpa using h2
                  have f2 : decide (t9 = p) = false := decide_eq_false h2
                  have HA := Lib.hid (HST.out.2 (fun k => h2 k.2.1))
                  clear HST h1 h2
                  go_quiet (fail)
                  clear d1 d2 f1 f2 n0 n1 n2 o1 o2
                  go_wp2
                  go_roundw
                  case rel => exact ⟨j + 1, a, by omega, rfl, by go_num, HA, Lib.hid (L2.out.below (HBq.out _)), Lib.hid (Q2.out.below (HBq.out _) Q2.out.lt), Lib.hid (P2.out.below (HBq.out _) P2.out.lt), Lib.hid (E2.out.below (HBq.out _)), Lib.hid (O2.out.below (HBq.out _) O2.out.lt), Lib.hid (B2.out.trans ((HBq.out _).mono B2.out.size))⟩
                  case measure => simp [intOf]; omega
              · have d1 : (e9 == (i : Int)) = false := by simpa using h1
                have f1 : decide (e9 = (i : Int)) = false := decide_eq_false h1
                have HA := Lib.hid (HST.out.2 (fun k => h1 k.1))
                clear HST h1
                go_quiet (fail)
                clear d1 f1 n0 n1 n2 o1 o2
                go_wp2
                go_roundw
                case rel => exact ⟨j + 1, a, by omega, rfl, by go_num, HA, Lib.hid (L2.out.below (HBq.out _)), Lib.hid (Q2.out.below (HBq.out _) Q2.out.lt), Lib.hid (P2.out.below (HBq.out _) P2.out.lt), Lib.hid (E2.out.below (HBq.out _)), Lib.hid (O2.out.below (HBq.out _) O2.out.lt), Lib.hid (B2.out.trans ((HBq.out _).mono B2.out.size))⟩
                case measure => simp [intOf]; omega
            · obtain rfl : j = m := by omega
              obtain rfl : a = 1 := by have h := HA.out; rw [← HMM.out, List.drop_length] at h; simpa using h
              clear HA Lr
              go_wp2
              go_roundw
              case rel => exact ⟨2, Or.inr (Or.inr rfl), by first | rfl | go_num, Qr, Pr, Er, Or_, Br⟩
              case measure => simp [intOf]
        · go_wp2
          go_roundw
          case rel => exact ⟨i + 1, by omega, by go_num, Qk, Pk, Ek, Bk⟩
          case measure => simp [intOf]; omega
    · obtain rfl : el = i := by omega
      clear HGD
      go_upto_region 23 with fail
      have hBz : Below wi.heap.size wi wi.drew := below_drewN (Below.refl _ _) 1
      have PX0 : Hid (Blk wi.drew gp 25 [.slice sa0 sl sc0, .slice ea0 el ec0]) := Lib.hid (Pi.out.below hBz Pi.out.lt)
      have QX0 : Hid (Blk wi.drew gq 31 [.slice sa1 sl sc1, .slice ea1 el ec1]) := Lib.hid (Qi.out.below hBz Qi.out.lt)
      have EX0 : Hid (EdgeRow wi.drew ea1 es) := Lib.hid (Ei.out.below hBz)
      have BX0 : Hid (Below w.heap.size w wi.drew) := Lib.hid (Bi.out.trans (hBz.mono Bi.out.size))
      clear hBz
      refine wp_region_held_drew (S := fun w' => Blk w' gq 31 [.slice sa1 sl sc1, .slice ea1 el ec1]) (by kernel_rfl) (QX0.out) (fun hHeld => ?_)
      generalize wi.drew = X0 at hHeld PX0 QX0 EX0 BX0 ⊢
      refine wpAnyH_take (i := 0) (v := .agg #[.slice sa1 sl sc1, .slice ea1 el ec1]) rfl (by kernel_rfl) (by kernel_rfl) (by kernel_rfl) (fun _ _ _ h => h) (Or.inl ⟨by rfl, by intro w' h; have k0 := Blk.cell h 0; have k1 := Blk.cell h 1; simp only [List.getElem?_cons_zero, List.getElem?_cons_succ] at k0 k1; go_simp⟩) hHeld ?_
      show wpAnyH _ _ _ _ _ _ _ (Act.put _ (some 100) _) _
      simp only [Act.put, List.setIfInBounds_toArray, List.set_cons_zero, List.set_cons_succ]
      refine wpAnyH_take (i := 1) (v := .int .i64 node) rfl (by kernel_rfl) (by kernel_rfl) (by kernel_rfl) (fun _ _ _ h => h) (Or.inl ⟨by rfl, fun w _ => by rfl⟩) hHeld ?_
      show wpAnyH _ _ _ _ _ _ _ (Act.put _ (some 101) _) _
      simp only [Act.put, List.setIfInBounds_toArray, List.set_cons_zero, List.set_cons_succ]
      refine wpAnyH_take (i := 2) (v := .int .u64 amt) rfl (by kernel_rfl) (by kernel_rfl) (by kernel_rfl) (fun _ _ _ h => h) (Or.inl ⟨by rfl, fun w _ => by rfl⟩) hHeld ?_
      show wpAnyH _ _ _ _ _ _ _ (Act.put _ (some 102) _) _
      simp only [Act.put, List.setIfInBounds_toArray, List.set_cons_zero, List.set_cons_succ]
      refine wpAnyH_take (i := 3) (v := .int .u64 less) rfl (by kernel_rfl) (by kernel_rfl) (by kernel_rfl) (fun _ _ _ h => h) (Or.inl ⟨by rfl, fun w _ => by rfl⟩) hHeld ?_
      show wpAnyH _ _ _ _ _ _ _ (Act.put _ (some 103) _) _
      simp only [Act.put, List.setIfInBounds_toArray, List.set_cons_zero, List.set_cons_succ]
      refine wpAnyH_take (i := 4) (v := .int .u64 (min amt less)) rfl (by kernel_rfl) (by kernel_rfl) (by kernel_rfl) (fun _ _ _ h => h) (Or.inl ⟨by rfl, by intro w' h; go_simp⟩) hHeld ?_
      show wpAnyH _ _ _ _ _ _ _ (Act.put _ (some 104) _) _
      simp only [Act.put, List.setIfInBounds_toArray, List.set_cons_zero, List.set_cons_succ]
      refine wpAnyH_take (i := 6) (v := .agg #[.slice sa1 sl sc1, .slice ea1 el ec1]) rfl (by kernel_rfl) (by kernel_rfl) (by kernel_rfl) (fun _ _ _ h => h) (Or.inl ⟨by rfl, by intro w' h; have k0 := Blk.cell h 0; have k1 := Blk.cell h 1; simp only [List.getElem?_cons_zero, List.getElem?_cons_succ] at k0 k1; go_simp⟩) hHeld ?_
      show wpAnyH _ _ _ _ _ _ _ (Act.put _ (some 106) _) _
      simp only [Act.put, List.setIfInBounds_toArray, List.set_cons_zero, List.set_cons_succ]
      refine wpAnyH_take (i := 7) (v := .int .i64 node) rfl (by kernel_rfl) (by kernel_rfl) (by kernel_rfl) (fun _ _ _ h => h) (Or.inl ⟨by rfl, fun w _ => by rfl⟩) hHeld ?_
      show wpAnyH _ _ _ _ _ _ _ (Act.put _ (some 107) _) _
      simp only [Act.put, List.setIfInBounds_toArray, List.set_cons_zero, List.set_cons_succ]
      refine wpAnyH_take (i := 8) (v := .int .u64 amt) rfl (by kernel_rfl) (by kernel_rfl) (by kernel_rfl) (fun _ _ _ h => h) (Or.inl ⟨by rfl, fun w _ => by rfl⟩) hHeld ?_
      show wpAnyH _ _ _ _ _ _ _ (Act.put _ (some 108) _) _
      simp only [Act.put, List.setIfInBounds_toArray, List.set_cons_zero, List.set_cons_succ]
      refine wpAnyH_take (i := 9) (v := .int .u64 less) rfl (by kernel_rfl) (by kernel_rfl) (by kernel_rfl) (fun _ _ _ h => h) (Or.inl ⟨by rfl, fun w _ => by rfl⟩) hHeld ?_
      show wpAnyH _ _ _ _ _ _ _ (Act.put _ (some 109) _) _
      simp only [Act.put, List.setIfInBounds_toArray, List.set_cons_zero, List.set_cons_succ]
      refine wpAnyH_take (i := 10) (v := .int .u64 (max amt less)) rfl (by kernel_rfl) (by kernel_rfl) (by kernel_rfl) (fun _ _ _ h => h) (Or.inl ⟨by rfl, by intro w' h; go_simp⟩) hHeld ?_
      show wpAnyH _ _ _ _ _ _ _ (Act.put _ (some 110) _) _
      simp only [Act.put, List.setIfInBounds_toArray, List.set_cons_zero, List.set_cons_succ]
      refine wpAnyH_ready (rs := [5]) (by kernel_rfl) (by simp) ?_
      refine AllReadyH.cons rfl (fun K hK => ?_) AllReadyH.nil
      refine step_call rfl 22 #[.tmp 100, .tmp 101, .tmp 104] #[31, 3, 40] rfl #[.agg #[.slice sa1 sl sc1, .slice ea1 el ec1], .int .i64 node, .int .u64 (min amt less)] (by simp [Act.eval]) (by go_simp) (reach_any sa1 sl sc1 ea1 el ec1 es node (min amt less) X0 EX0.out HEL.out (by omega) (by omega)) ?_
      rintro e X1 ⟨la, lc, l, rfl, hl, hR, hB⟩
      have PX1 : Hid (Blk X1 gp 25 [.slice sa0 sl sc0, .slice ea0 el ec0]) := Lib.hid (PX0.out.below hB PX0.out.lt)
      have QX1 : Hid (Blk X1 gq 31 [.slice sa1 sl sc1, .slice ea1 el ec1]) := Lib.hid (QX0.out.below hB QX0.out.lt)
      have EX1 : Hid (EdgeRow X1 ea1 es) := Lib.hid (EX0.out.below hB)
      have BX1 : Hid (Below w.heap.size w X1) := Lib.hid (BX0.out.trans (hB.mono BX0.out.size))
      have LX1 : Hid (IRow X1 la l) := Lib.hid (hR)
      have HRL := Lib.hid hl
      obtain ⟨n, hn⟩ : ∃ n, l.length = n := ⟨_, rfl⟩
      have hn20 : n ≤ 8 := by have h9 := hl.le; omega
      rw [hn]
      have HLN := Lib.hid hn
      clear hl hn hR
      clear PX0 QX0 EX0 BX0 hB
      refine ⟨_, rfl, hK.out _ _ (QX1.out) (fun hHeld => ?_)⟩
      clear hK K
      show wpAnyH _ _ _ _ _ _ _ (Act.put _ (some 105) _) _
      simp only [Act.put, List.setIfInBounds_toArray, List.set_cons_zero, List.set_cons_succ]
      refine wpAnyH_ready (rs := [11]) (by kernel_rfl) (by simp) ?_
      refine AllReadyH.cons rfl (fun K hK => ?_) AllReadyH.nil
      refine step_call rfl 22 #[.tmp 106, .tmp 107, .tmp 110] #[31, 3, 40] rfl #[.agg #[.slice sa1 sl sc1, .slice ea1 el ec1], .int .i64 node, .int .u64 (max amt less)] (by simp [Act.eval]) (by go_simp) (reach_any sa1 sl sc1 ea1 el ec1 es node (max amt less) X1 EX1.out HEL.out (by omega) (by omega)) ?_
      rintro e X2 ⟨ma, mc, m, rfl, hm, hR, hB⟩
      have PX2 : Hid (Blk X2 gp 25 [.slice sa0 sl sc0, .slice ea0 el ec0]) := Lib.hid (PX1.out.below hB PX1.out.lt)
      have QX2 : Hid (Blk X2 gq 31 [.slice sa1 sl sc1, .slice ea1 el ec1]) := Lib.hid (QX1.out.below hB QX1.out.lt)
      have EX2 : Hid (EdgeRow X2 ea1 es) := Lib.hid (EX1.out.below hB)
      have BX2 : Hid (Below w.heap.size w X2) := Lib.hid (BX1.out.trans (hB.mono BX1.out.size))
      have LX2 : Hid (IRow X2 la l) := Lib.hid (LX1.out.below hB)
      have MX2 : Hid (IRow X2 ma m) := Lib.hid (hR)
      have HRM := Lib.hid hm
      obtain ⟨k, hk⟩ : ∃ k, m.length = k := ⟨_, rfl⟩
      have hk20 : k ≤ 8 := by have h9 := hm.le; omega
      rw [hk]
      have HMK := Lib.hid hk
      clear hm hk hR
      clear PX1 QX1 EX1 BX1 LX1 hB
      refine ⟨_, rfl, hK.out _ _ (QX2.out) (fun hHeld => ?_)⟩
      clear hK K
      show wpAnyH _ _ _ _ _ _ _ (Act.put _ (some 111) _) _
      simp only [Act.put, List.setIfInBounds_toArray, List.set_cons_zero, List.set_cons_succ]
      refine wpAnyH_take (i := 12) (v := .slice la n lc) rfl (by kernel_rfl) (by kernel_rfl) (by kernel_rfl) (fun _ _ _ h => h) (Or.inl ⟨by rfl, fun w _ => by rfl⟩) hHeld ?_
      show wpAnyH _ _ _ _ _ _ _ (Act.put _ (some 17) _) _
      simp only [Act.put, List.setIfInBounds_toArray, List.set_cons_zero, List.set_cons_succ]
      refine wpAnyH_take (i := 13) (v := .slice ma k mc) rfl (by kernel_rfl) (by kernel_rfl) (by kernel_rfl) (fun _ _ _ h => h) (Or.inl ⟨by rfl, fun w _ => by rfl⟩) hHeld ?_
      show wpAnyH _ _ _ _ _ _ _ (Act.put _ (some 18) _) _
      simp only [Act.put, List.setIfInBounds_toArray, List.set_cons_zero, List.set_cons_succ]
      refine wpAnyH_done (by kernel_rfl) ?_ _
      clear hHeld
      have HRS0 : Hid (Rest m l 0 0) := Lib.hid (reach_rest HOK.out (by omega) HRL.out HRM.out)
      have HPL := Lib.hid (reach_rises HRL.out)
      have HPM := Lib.hid (reach_rises HRM.out)
      have HSF0 : Hid ((0 ≤ node ∧ node < (sl : Int)) → node ∈ l) := Lib.hid (fun hn9 => reach_self HCC.out hn9 HRL.out)
      clear HRL HRM
      have p0 : X2.cell? ⟨gp, 0, none⟩ = some (.slice sa0 sl sc0) := PX2.out.cell 0
      have p1 : X2.cell? ⟨gp, 1, none⟩ = some (.slice ea0 el ec0) := PX2.out.cell 1
      clear PX2 QX2 EX2
      go_upto_region 25 with fail
      go_cut [20] from 112 to 120 (fun s20 wc => ∃ sB : Bool, s20 = .bool sB ∧ Hid (sB = true ∨ node ∈ l) ∧ Hid (IRow wc la l) ∧ Hid (IRow wc ma m) ∧ Hid (Below w.heap.size w wc))
      case first =>
        by_cases hn1 : node < 0
        · have hd : decide (node < 0) = true := decide_eq_true hn1
          go_wp2_with fail
          go_meet
          exact ⟨true, rfl, Lib.hid (.inl rfl), LX2, MX2, BX2⟩
        · have hd : decide (node < 0) = false := decide_eq_false hn1
          by_cases hn2 : (sl : Int) ≤ node
          · have he : decide ((sl : Int) ≤ node) = true := decide_eq_true hn2
            go_wp2_with fail
            go_meet
            exact ⟨true, by first | rfl | simp [hn2], Lib.hid (.inl rfl), LX2, MX2, BX2⟩
          · have he : decide ((sl : Int) ≤ node) = false := decide_eq_false hn2
            have HI := Lib.hid (HSF0.out ⟨by omega, by omega⟩)
            go_wp2_with fail
            go_meet
            exact ⟨false, by first | rfl | simp [hn2], Lib.hid (.inr HI.out), LX2, MX2, BX2⟩
      case rest =>
        obtain ⟨sB0, rfl, HF0, L9, M9, B9⟩ := hcut
        clear p0 p1 LX2 MX2 BX2 HSF0
        go_wp2_with fail
        go_loopw [19, 20, 123] (fun s19 s20 s123 wd => ∃ (a : Nat) (sB : Bool) (j : Nat), j ≤ n ∧ s19 = .int .i64 (a : Int) ∧ s20 = .bool sB ∧ s123 = .int .i64 (j : Int) ∧ Hid (Rest m l a j) ∧ Hid (sB = true ∨ node ∈ l.drop j) ∧ Hid (IRow wd la l) ∧ Hid (IRow wd ma m) ∧ Hid (Below w.heap.size w wd)) (fun _ _ j _ => n - (intOf j).toNat)
        case atStart => exact ⟨0, sB0, 0, Nat.zero_le _, rfl, rfl, rfl, HRS0, Lib.hid (by rw [List.drop_zero]; exact HF0.out), L9, M9, B9⟩
        case round =>
          clear L9 M9 B9 HRS0 HF0
          obtain ⟨a, sB, j, hj, rfl, rfl, rfl, HRR, HF, Lr, Mr, Br⟩ := hrel
          obtain ⟨wj, hwj⟩ : ∃ wj : World, wr = wj := ⟨_, rfl⟩
          rw [hwj] at Lr Mr Br ⊢
          clear hwj
          have hak9 : a ≤ k := by have := HRR.out.1; rw [HMK.out] at this; exact this
          have hak8 : (a : Int) ≤ 8 := by omega
          by_cases hlj : j < n
          · have hjI : (j : Int) < (n : Int) := by omega
            have hnI : (n : Int) ≤ 8 := by omega
            have hkI : (k : Int) ≤ 8 := by omega
            have hjS : j < l.length := by rw [HLN.out]; exact hlj
            obtain ⟨bl, ol, rfl, _, hcl⟩ : ∃ b off, la = some ⟨b, off, none⟩ ∧ b < wj.heap.size ∧ ∀ i, i < l.length → wj.cell? ⟨b, off + i, none⟩ = some (.int .i64 (l.getD i 0)) := by
              rcases Lr.out with h0 | h0
              · rw [h0] at hjS; simp at hjS
              · exact h0
            obtain ⟨x, hx⟩ : ∃ x, l.getD j 0 = x := ⟨_, rfl⟩
            have l0 : wj.cell? ⟨bl, ol + j, none⟩ = some (.int .i64 x) := by rw [hcl j hjS, hx]
            have HST := Lib.hid (HRR.out.step HPM.out HPL.out hjS hx)
            have HFS := Lib.hid (self_step hjS hx HF.out)
            clear hcl HRR hx hjS
            cases sB with
            | true =>
              by_cases hak : a < k
              · have hakI : (a : Int) < (k : Int) := by omega
                have hakS : a < m.length := by rw [HMK.out]; exact hak
                obtain ⟨bm, om, rfl, _, hcm⟩ : ∃ b off, ma = some ⟨b, off, none⟩ ∧ b < wj.heap.size ∧ ∀ i, i < m.length → wj.cell? ⟨b, off + i, none⟩ = some (.int .i64 (m.getD i 0)) := by
                  rcases Mr.out with h0 | h0
                  · rw [h0] at hakS; simp at hakS
                  · exact h0
                obtain ⟨y, hy⟩ : ∃ y, m.getD a 0 = y := ⟨_, rfl⟩
                have m0 : wj.cell? ⟨bm, om + a, none⟩ = some (.int .i64 y) := by rw [hcm a hakS, hy]
                clear hcm
                by_cases hyx : y = x
                · subst hyx
                  have HRS := Lib.hid (HST.out.1 hakS hy)
                  have HSF : Hid (true = true ∨ node ∈ l.drop (j + 1)) := Lib.hid (.inl rfl)
                  clear HST HF
                  go_wp2
                  go_roundw
                  case rel => exact ⟨a + 1, true, j + 1, by omega, by go_num, by first | rfl | go_num, by go_num, HRS, HSF, Lr, Mr, Br⟩
                  case measure => simp [intOf]; omega
                · have hyf : (y == x) = false := by simpa using hyx
                  have hyg : decide (y = x) = false := decide_eq_false hyx
                  have HRS := Lib.hid (HST.out.2.1 hakS (by rw [hy]; exact hyx))
                  have HSF : Hid (true = true ∨ node ∈ l.drop (j + 1)) := Lib.hid (.inl rfl)
                  clear HST HF
                  go_wp2
                  go_roundw
                  case rel => exact ⟨a, true, j + 1, by omega, rfl, by first | rfl | go_num, by go_num, HRS, HSF, Lr, Mr, Br⟩
                  case measure => simp [intOf]; omega
              · have hakI : ¬ (a : Int) < (k : Int) := by omega
                have hakD : decide ((a : Int) < (k : Int)) = false := decide_eq_false hakI
                have HRS := Lib.hid (HST.out.2.2 (by rw [HMK.out]; exact hak))
                have HSF : Hid (true = true ∨ node ∈ l.drop (j + 1)) := Lib.hid (.inl rfl)
                clear HST HF
                go_wp2
                go_roundw
                case rel => exact ⟨a, true, j + 1, by omega, rfl, by first | rfl | go_num, by go_num, HRS, HSF, Lr, Mr, Br⟩
                case measure => simp [intOf]; omega
            | false =>
              by_cases hxn : x = node
              · have hxf : (x == node) = true := by simpa using hxn
                have hxg : decide (x = node) = true := decide_eq_true hxn
                by_cases hak : a < k
                · have hakI : (a : Int) < (k : Int) := by omega
                  have hakS : a < m.length := by rw [HMK.out]; exact hak
                  obtain ⟨bm, om, rfl, _, hcm⟩ : ∃ b off, ma = some ⟨b, off, none⟩ ∧ b < wj.heap.size ∧ ∀ i, i < m.length → wj.cell? ⟨b, off + i, none⟩ = some (.int .i64 (m.getD i 0)) := by
                    rcases Mr.out with h0 | h0
                    · rw [h0] at hakS; simp at hakS
                    · exact h0
                  obtain ⟨y, hy⟩ : ∃ y, m.getD a 0 = y := ⟨_, rfl⟩
                  have m0 : wj.cell? ⟨bm, om + a, none⟩ = some (.int .i64 y) := by rw [hcm a hakS, hy]
                  clear hcm
                  by_cases hyx : y = x
                  · subst hyx
                    have HRS := Lib.hid (HST.out.1 hakS hy)
                    have HSF : Hid (true = true ∨ node ∈ l.drop (j + 1)) := Lib.hid (.inl rfl)
                    clear HST HF
                    go_wp2
                    go_roundw
                    case rel => exact ⟨a + 1, true, j + 1, by omega, by go_num, by first | rfl | go_num, by go_num, HRS, HSF, Lr, Mr, Br⟩
                    case measure => simp [intOf]; omega
                  · have hyf : (y == x) = false := by simpa using hyx
                    have hyg : decide (y = x) = false := decide_eq_false hyx
                    have HRS := Lib.hid (HST.out.2.1 hakS (by rw [hy]; exact hyx))
                    have HSF : Hid (true = true ∨ node ∈ l.drop (j + 1)) := Lib.hid (.inl rfl)
                    clear HST HF
                    go_wp2
                    go_roundw
                    case rel => exact ⟨a, true, j + 1, by omega, rfl, by first | rfl | go_num, by go_num, HRS, HSF, Lr, Mr, Br⟩
                    case measure => simp [intOf]; omega
                · have hakI : ¬ (a : Int) < (k : Int) := by omega
                  have hakD : decide ((a : Int) < (k : Int)) = false := decide_eq_false hakI
                  have HRS := Lib.hid (HST.out.2.2 (by rw [HMK.out]; exact hak))
                  have HSF : Hid (true = true ∨ node ∈ l.drop (j + 1)) := Lib.hid (.inl rfl)
                  clear HST HF
                  go_wp2
                  go_roundw
                  case rel => exact ⟨a, true, j + 1, by omega, rfl, by first | rfl | go_num, by go_num, HRS, HSF, Lr, Mr, Br⟩
                  case measure => simp [intOf]; omega
              · have hxf : (x == node) = false := by simpa using hxn
                have hxg : decide (x = node) = false := decide_eq_false hxn
                have HN := Lib.hid (HFS.out.2 hxn)
                clear hxn
                by_cases hak : a < k
                · have hakI : (a : Int) < (k : Int) := by omega
                  have hakS : a < m.length := by rw [HMK.out]; exact hak
                  obtain ⟨bm, om, rfl, _, hcm⟩ : ∃ b off, ma = some ⟨b, off, none⟩ ∧ b < wj.heap.size ∧ ∀ i, i < m.length → wj.cell? ⟨b, off + i, none⟩ = some (.int .i64 (m.getD i 0)) := by
                    rcases Mr.out with h0 | h0
                    · rw [h0] at hakS; simp at hakS
                    · exact h0
                  obtain ⟨y, hy⟩ : ∃ y, m.getD a 0 = y := ⟨_, rfl⟩
                  have m0 : wj.cell? ⟨bm, om + a, none⟩ = some (.int .i64 y) := by rw [hcm a hakS, hy]
                  clear hcm
                  by_cases hyx : y = x
                  · subst hyx
                    have HRS := Lib.hid (HST.out.1 hakS hy)
                    have HSF : Hid (false = true ∨ node ∈ l.drop (j + 1)) := Lib.hid (HN.out)
                    clear HST HF
                    go_wp2
                    go_roundw
                    case rel => exact ⟨a + 1, false, j + 1, by omega, by go_num, by first | rfl | go_num, by go_num, HRS, HSF, Lr, Mr, Br⟩
                    case measure => simp [intOf]; omega
                  · have hyf : (y == x) = false := by simpa using hyx
                    have hyg : decide (y = x) = false := decide_eq_false hyx
                    have HRS := Lib.hid (HST.out.2.1 hakS (by rw [hy]; exact hyx))
                    have HSF : Hid (false = true ∨ node ∈ l.drop (j + 1)) := Lib.hid (HN.out)
                    clear HST HF
                    go_wp2
                    go_roundw
                    case rel => exact ⟨a, false, j + 1, by omega, rfl, by first | rfl | go_num, by go_num, HRS, HSF, Lr, Mr, Br⟩
                    case measure => simp [intOf]; omega
                · have hakI : ¬ (a : Int) < (k : Int) := by omega
                  have hakD : decide ((a : Int) < (k : Int)) = false := decide_eq_false hakI
                  have HRS := Lib.hid (HST.out.2.2 (by rw [HMK.out]; exact hak))
                  have HSF : Hid (false = true ∨ node ∈ l.drop (j + 1)) := Lib.hid (HN.out)
                  clear HST HF
                  go_wp2
                  go_roundw
                  case rel => exact ⟨a, false, j + 1, by omega, rfl, by first | rfl | go_num, by go_num, HRS, HSF, Lr, Mr, Br⟩
                  case measure => simp [intOf]; omega
          · obtain rfl : j = n := by omega
            obtain rfl : sB = true := by have h := HF.out; rw [← HLN.out, List.drop_length] at h; simpa using h
            obtain rfl : a = k := by have h := HRR.out; rw [← HLN.out] at h; rw [← HMK.out]; exact h.all
            clear HF HRR Lr Mr
            go_wp2_with fail
            refine (wawake_any _).mono ?_
            rintro e W9 ⟨rfl, hB⟩
            have B9 := Lib.hid (Br.out.trans (hB.mono Br.out.size))
            clear hB Br
            go_wp2
            go_ret
            exact ⟨rfl, B9.out⟩

set_option maxRecDepth 100000 in
theorem lifted (os : Os) (started : os.Started) (H : Type) (enc : TypeId × Value → H) :
    ReturnsInHanded {} Try.checked os 7 .any (Rows.webBothSpec.pre6 enc Try.prog Try.f7 Rows.webBothRow.domain false) (Rows.webBothSpec.post enc Try.prog Try.f7 false true false false) := by
  refine returnsInHanded_of_change (C := Try.checked) own started (by kernel_rfl) Try.func7
    (ChangeSpec.witness6 (enc := enc) (C := Try.checked) false ⟨#[], #[.agg #[.slice none 0 0, .slice none 0 0], .int .i64 0, .int .u64 0, .int .u64 0], []⟩ 8 (by kernel_rfl) (by kernel_rfl) (by kernel_rfl) (by kernel_rfl)) ?_
  intro W base args ds gs before hval0 hW hcnd _
  have hval : ∀ (j : Nat) t v, Try.f7.params[j]? = some t → args[j]? = some v → Value.okWide Try.prog W .any base t v := hval0
  have hW' := hW
  obtain ⟨p, q, hA0, hV, rfl, hfz, hnd⟩ := hW
  have hA : DataW.TrodAll enc Try.prog W 0 (fun _ => true) true Try.f7.params.toList args.toList ds p := hA0
  rw [Try.params7] at hA hval
  obtain ⟨v0, vs0, dd0, ds0, p0, q0, hargs, rfl, rfl, h0, r0⟩ := trodAll_cons hA
  obtain ⟨v1, vs1, dd1, ds1, p1, q1, rfl, rfl, rfl, h1, r1⟩ := trodAll_cons r0
  obtain ⟨v2, vs2, dd2, ds2, p2, q2, rfl, rfl, rfl, h2, r2⟩ := trodAll_cons r1
  obtain ⟨v3, vs3, dd3, ds3, p3, q3, rfl, rfl, rfl, h3, r3⟩ := trodAll_cons r2
  obtain ⟨rfl, rfl, rfl⟩ := trodAll_nil r3
  obtain rfl : args = #[v0, v1, v2, v3] := by cases args; simp_all
  obtain ⟨rfl, rfl⟩ := trodVars_none hV
  have k0 := h0
  have lt0 : ∀ x ∈ p0, x.block < W.heap.size := by obtain ⟨m, hm⟩ := k0; exact DataW.trod_lt m _ _ _ hm
  obtain ⟨A0, l0, c0, B0, m0, d0, sp0, es0, rfl, hsp0, hes0, hS0, hE0, hok0, hm0, hn0⟩ := openWeb (hval 0 25 v0 rfl rfl) h0
  obtain ⟨a1, rfl, rfl, rfl, w1⟩ := open_int Try.underlying3 (hval 1 3 v1 rfl rfl) h1
  obtain ⟨a2, rfl, rfl, rfl, w2⟩ := open_int Try.underlying40 (hval 2 40 v2 rfl rfl) h2
  obtain ⟨a3, rfl, rfl, rfl, w3⟩ := open_int Try.underlying40 (hval 3 40 v3 rfl rfl) h3
  clear hA0 hval0
  refine Calls.mono (R := Ok W) ?_ fun e W1 ⟨he, bel⟩ => ?_
  · skip
    show Calls Try.prog 7 _ W (Ok W)
    by_cases h : lightB l0 m0 = true
    · by_cases hc : checkE l0 es0 = 0
      · exact both_good A0 l0 c0 B0 m0 d0 sp0 es0 a1 a2 a3 W h hsp0 hes0 hS0 hE0 hok0 hc
      · exact both_bad A0 l0 c0 B0 m0 d0 sp0 es0 a1 a2 a3 W h hsp0 hes0 hS0 hE0 hok0 hc
    · exact both_dark A0 l0 c0 B0 m0 d0 a1 a2 a3 W (by simpa using h)
  subst he
  exact ⟨_, rfl, _, _, _, [], _, [], hW', trodAll_mk1 (shut_bool Try.underlying4 _), (trodAll_cons_mk (Below.trod laidOut (by kernel_rfl) (of_decide_eq_true (by kernel_rfl)) k0 bel lt0) (trodAll_cons_mk (shut_int Try.underlying3 w1) (trodAll_cons_mk (shut_int Try.underlying40 w2) (trodAll_cons_mk (shut_int Try.underlying40 w3) trodAll_mk0)))), rfl, bel.frame _, fun h => by cases h⟩

theorem proved : Rows.WebBothSaid :=
  OpenClaim.holds_of_wide 7 Try.f7 rfl rfl rfl rfl rfl rfl rfl ⟨rfl, rfl, rfl, rfl, rfl⟩ rfl rfl rfl rfl rfl (by kernel_rfl) Try.func7 (by kernel_rfl)
    (of_decide_eq_true (by kernel_rfl)) (by unfold Func.isWrapper; first | (rw [if_pos (by decide +kernel)]; kernel_rfl) | (rw [if_neg (by decide +kernel)]; exact ⟨rfl, rfl⟩))
    (fun os started H enc _ => lifted os started H enc)
#print axioms proved
end Go.Proofs.Ytnnimjaigciedaa.webBoth
