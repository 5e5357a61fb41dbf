/-
  tollhouselaw07.WebBack returns true for every input: what is sent keeps what all channels hold; sent there and back a web is itself; nothing that was there is written.
-/
import Derived.Test.YtnnimjaigciedaaWebQ
namespace Go.Proofs.Ytnnimjaigciedaa.webBack
open Go.ChangeShapes Go.WideShapes Go.ChangeAt Go.RowKit
set_option linter.unusedVariables false

def Ok (w : World) (e : Ending) (w' : World) : Prop := e = .returned (.bool true) ∧ Below w.heap.size w w'

set_option maxRecDepth 100000 in
set_option maxHeartbeats 4000000 in
theorem way_dark (sa : Option Addr) (sl sc : Nat) (ea : Option Addr) (el ec : Nat) (edge node amt : Int) (w : World) (hl : lightB sl el = false) :
    Calls Try.prog 6 #[.agg #[.slice sa sl sc, .slice ea el ec], .int .i64 edge, .int .i64 node, .int .u64 amt] w (Ok w) := by
  have HL := Lib.hid (fun w => light_any sa sl sc ea el ec w)
  rw [hl] at HL
  have BX : Hid (Below w.heap.size w w) := Lib.hid (Below.refl _ _)
  clear hl
  go_enter Try.func6, Try.ntmps6
  have B0 : Hid (Below w.heap.size w (w.alloc (.cells #[.slice sa sl sc, .slice ea el ec] 25))) := Lib.hid ((Below.refl _ _).alloc (Nat.le_refl _) _)
  clear BX
  go_wp2_with fail
  refine (HL.out _).mono ?_
  rintro e Y ⟨rfl, hB⟩
  have B1 := Lib.hid (B0.out.trans (hB.mono B0.out.size))
  clear hB B0
  go_wp2_with fail
  refine (wawake_any _).mono ?_
  rintro e Y2 ⟨rfl, hB⟩
  have B2 := Lib.hid (B1.out.trans (hB.mono B1.out.size))
  clear hB B1
  go_wp2
  go_ret
  exact ⟨rfl, B2.out⟩

set_option maxRecDepth 100000 in
set_option maxHeartbeats 4000000 in
theorem way_light (sa0 : Option Addr) (sl sc0 : Nat) (ea0 : Option Addr) (el ec0 : Nat) (sp : List (Int × Int)) (es : List Ed) (edge node amt : Int) (w : World) (hl : lightB sl el = true) (hsl : sp.length = sl) (hel : es.length = el) (hS : SpotRow w sa0 sp) (hE : EdgeRow w ea0 es) (hok : ∀ e ∈ es, EdOk e) (hamt : Word amt) (he : (Lit.int .i64 edge).wf = true) :
    Calls Try.prog 6 #[.agg #[.slice sa0 sl sc0, .slice ea0 el ec0], .int .i64 edge, .int .i64 node, .int .u64 amt] w (Ok w) := by
  have HL := Lib.hid (fun w => light_any sa0 sl sc0 ea0 el ec0 w)
  rw [hl] at HL
  have hlt : sl ≤ 20 ∧ el ≤ 30 := by unfold lightB at hl; exact of_decide_eq_true hl
  obtain ⟨hs20, he30⟩ := hlt
  have HSL := Lib.hid hsl
  have HEL := Lib.hid hel
  have HOK := Lib.hid hok
  have HAM := Lib.hid hamt
  have Bw : Hid (Below w.heap.size w w) := Lib.hid (Below.refl _ _)
  have S0w := Lib.hid hS
  have E0w := Lib.hid hE
  clear hl hsl hel hok hamt hS hE
  go_enter Try.func6, Try.ntmps6
  have hB : Below w.heap.size w (w.alloc (.cells #[.slice sa0 sl sc0, .slice ea0 el ec0] 25)) := (Below.refl _ _).alloc (Nat.le_refl _) _
  have BY1 : Hid (Below w.heap.size w (w.alloc (.cells #[.slice sa0 sl sc0, .slice ea0 el ec0] 25))) := Lib.hid (Bw.out.trans (hB.mono Bw.out.size))
  have S0Y1 : Hid (SpotRow (w.alloc (.cells #[.slice sa0 sl sc0, .slice ea0 el ec0] 25)) sa0 sp) := Lib.hid (S0w.out.below hB)
  have E0Y1 : Hid (EdgeRow (w.alloc (.cells #[.slice sa0 sl sc0, .slice ea0 el ec0] 25)) ea0 es) := Lib.hid (E0w.out.below hB)
  have PY1 : Hid (Blk (w.alloc (.cells #[.slice sa0 sl sc0, .slice ea0 el ec0] 25)) w.heap.size 25 [.slice sa0 sl sc0, .slice ea0 el ec0]) := Lib.hid (Blk.new _ _ [.slice sa0 sl sc0, .slice ea0 el ec0])
  clear hB Bw S0w E0w
  go_wp2_with fail
  generalize (w.alloc (.cells #[.slice sa0 sl sc0, .slice ea0 el ec0] 25)) = Y1 at BY1 S0Y1 E0Y1 PY1 ⊢
  generalize w.heap.size = gp at PY1 ⊢
  refine (HL.out Y1).mono ?_
  rintro e Y2 ⟨rfl, hB⟩
  have BY2 : Hid (Below w.heap.size w Y2) := Lib.hid (BY1.out.trans (hB.mono BY1.out.size))
  have S0Y2 : Hid (SpotRow Y2 sa0 sp) := Lib.hid (S0Y1.out.below hB)
  have E0Y2 : Hid (EdgeRow Y2 ea0 es) := Lib.hid (E0Y1.out.below hB)
  have PY2 : Hid (Blk Y2 gp 25 [.slice sa0 sl sc0, .slice ea0 el ec0]) := Lib.hid (PY1.out.below hB PY1.out.lt)
  clear BY1 S0Y1 E0Y1 PY1
  clear hB
  have cP0 := Blk.cell PY2.out 0
  have cP1 := Blk.cell PY2.out 1
  simp only [List.getElem?_cons_zero, List.getElem?_cons_succ] at cP0 cP1
  go_wp2_with fail
  clear cP0 cP1
  refine (wto_any sa0 sl sc0 ea0 el ec0 sp es Y2 S0Y2.out E0Y2.out HSL.out HEL.out hs20 he30).mono ?_
  rintro e Y3 ⟨sa1, sc1, ea1, ec1, rfl, hS, hE, hn1, hn2, hB⟩
  have BY3 : Hid (Below w.heap.size w Y3) := Lib.hid (BY2.out.trans (hB.mono BY2.out.size))
  have S0Y3 : Hid (SpotRow Y3 sa0 sp) := Lib.hid (S0Y2.out.below hB)
  have E0Y3 : Hid (EdgeRow Y3 ea0 es) := Lib.hid (E0Y2.out.below hB)
  have PY3 : Hid (Blk Y3 gp 25 [.slice sa0 sl sc0, .slice ea0 el ec0]) := Lib.hid (PY2.out.below hB PY2.out.lt)
  clear BY2 S0Y2 E0Y2 PY2
  clear hB
  have S1Y3 : Hid (SpotRow Y3 sa1 sp) := Lib.hid (hS)
  have E1Y3 : Hid (EdgeRow Y3 ea1 es) := Lib.hid (hE)
  have HN1 := Lib.hid hn1
  have HN2 := Lib.hid hn2
  clear hS hE hn1 hn2
  have hB : Below Y3.heap.size Y3 (Y3.alloc (.cells #[.slice sa1 sl sc1, .slice ea1 el ec1] 31)) := (Below.refl _ _).alloc (Nat.le_refl _) _
  have BY4 : Hid (Below w.heap.size w (Y3.alloc (.cells #[.slice sa1 sl sc1, .slice ea1 el ec1] 31))) := Lib.hid (BY3.out.trans (hB.mono BY3.out.size))
  have S0Y4 : Hid (SpotRow (Y3.alloc (.cells #[.slice sa1 sl sc1, .slice ea1 el ec1] 31)) sa0 sp) := Lib.hid (S0Y3.out.below hB)
  have E0Y4 : Hid (EdgeRow (Y3.alloc (.cells #[.slice sa1 sl sc1, .slice ea1 el ec1] 31)) ea0 es) := Lib.hid (E0Y3.out.below hB)
  have PY4 : Hid (Blk (Y3.alloc (.cells #[.slice sa1 sl sc1, .slice ea1 el ec1] 31)) gp 25 [.slice sa0 sl sc0, .slice ea0 el ec0]) := Lib.hid (PY3.out.below hB PY3.out.lt)
  have S1Y4 : Hid (SpotRow (Y3.alloc (.cells #[.slice sa1 sl sc1, .slice ea1 el ec1] 31)) sa1 sp) := Lib.hid (S1Y3.out.below hB)
  have E1Y4 : Hid (EdgeRow (Y3.alloc (.cells #[.slice sa1 sl sc1, .slice ea1 el ec1] 31)) ea1 es) := Lib.hid (E1Y3.out.below hB)
  have QY4 : Hid (Blk (Y3.alloc (.cells #[.slice sa1 sl sc1, .slice ea1 el ec1] 31)) Y3.heap.size 31 [.slice sa1 sl sc1, .slice ea1 el ec1]) := Lib.hid (Blk.new _ _ [.slice sa1 sl sc1, .slice ea1 el ec1])
  clear hB BY3 S0Y3 E0Y3 PY3 S1Y3 E1Y3
  go_wp2_with fail
  generalize (Y3.alloc (.cells #[.slice sa1 sl sc1, .slice ea1 el ec1] 31)) = Y4 at BY4 S0Y4 E0Y4 PY4 S1Y4 E1Y4 QY4 ⊢
  generalize Y3.heap.size = gq at QY4 ⊢
  have HW : Hid (WebAt Y4 (.agg #[.slice sa1 sl sc1, .slice ea1 el ec1]) sp es) := Lib.hid ⟨sa1, sc1, ea1, ec1, by rw [HSL.out, HEL.out], S1Y4.out, E1Y4.out, HN1.out, HN2.out⟩
  have HSE := Lib.hid (sent_any _ sp es edge node amt Y4 HW.out (by rw [HSL.out]; omega) (by rw [HEL.out]; omega) HOK.out HAM.out)
  skip
  by_cases h0 : sentErr sp.length es edge node amt = 0
  · refine (HSE.out).mono ?_
    rintro e Y5 ⟨v, rfl, hB, hv, _⟩
    obtain ⟨sa2, sc2, ea2, ec2, rfl, hS, hE, hn3, hn4⟩ := hv h0
    have BY5 : Hid (Below w.heap.size w Y5) := Lib.hid (BY4.out.trans (hB.mono BY4.out.size))
    have S0Y5 : Hid (SpotRow Y5 sa0 sp) := Lib.hid (S0Y4.out.below hB)
    have E0Y5 : Hid (EdgeRow Y5 ea0 es) := Lib.hid (E0Y4.out.below hB)
    have PY5 : Hid (Blk Y5 gp 25 [.slice sa0 sl sc0, .slice ea0 el ec0]) := Lib.hid (PY4.out.below hB PY4.out.lt)
    have S1Y5 : Hid (SpotRow Y5 sa1 sp) := Lib.hid (S1Y4.out.below hB)
    have E1Y5 : Hid (EdgeRow Y5 ea1 es) := Lib.hid (E1Y4.out.below hB)
    have QY5 : Hid (Blk Y5 gq 31 [.slice sa1 sl sc1, .slice ea1 el ec1]) := Lib.hid (QY4.out.below hB QY4.out.lt)
    clear BY4 S0Y4 E0Y4 PY4 S1Y4 E1Y4 QY4
    clear hB
    obtain ⟨hc0, k, rfl, hk, hside, _, _⟩ := sentErr_ok h0
    have hlen := (sent_ok h0 HOK.out HAM.out).2.1
    rw [h0]
    rw [HSL.out, hlen, HEL.out]
    have S2Y5 : Hid (SpotRow Y5 sa2 sp) := Lib.hid (hS)
    have E2Y5 : Hid (EdgeRow Y5 ea2 (sentL es k node amt)) := Lib.hid (hE)
    have HN3 := Lib.hid hn3
    have HN4 := Lib.hid hn4
    have H0 := Lib.hid h0
    have HLN := Lib.hid hlen
    have HK := Lib.hid hk
    have HSD := Lib.hid hside
    clear hS hE hn3 hn4 h0 hc0 hk hside hlen HSE HW
    have hB : Below Y5.heap.size Y5 (Y5.alloc (.cells #[.slice sa2 sl sc2, .slice ea2 el ec2] 31)) := (Below.refl _ _).alloc (Nat.le_refl _) _
    have BY6 : Hid (Below w.heap.size w (Y5.alloc (.cells #[.slice sa2 sl sc2, .slice ea2 el ec2] 31))) := Lib.hid (BY5.out.trans (hB.mono BY5.out.size))
    have S0Y6 : Hid (SpotRow (Y5.alloc (.cells #[.slice sa2 sl sc2, .slice ea2 el ec2] 31)) sa0 sp) := Lib.hid (S0Y5.out.below hB)
    have E0Y6 : Hid (EdgeRow (Y5.alloc (.cells #[.slice sa2 sl sc2, .slice ea2 el ec2] 31)) ea0 es) := Lib.hid (E0Y5.out.below hB)
    have PY6 : Hid (Blk (Y5.alloc (.cells #[.slice sa2 sl sc2, .slice ea2 el ec2] 31)) gp 25 [.slice sa0 sl sc0, .slice ea0 el ec0]) := Lib.hid (PY5.out.below hB PY5.out.lt)
    have S1Y6 : Hid (SpotRow (Y5.alloc (.cells #[.slice sa2 sl sc2, .slice ea2 el ec2] 31)) sa1 sp) := Lib.hid (S1Y5.out.below hB)
    have E1Y6 : Hid (EdgeRow (Y5.alloc (.cells #[.slice sa2 sl sc2, .slice ea2 el ec2] 31)) ea1 es) := Lib.hid (E1Y5.out.below hB)
    have QY6 : Hid (Blk (Y5.alloc (.cells #[.slice sa2 sl sc2, .slice ea2 el ec2] 31)) gq 31 [.slice sa1 sl sc1, .slice ea1 el ec1]) := Lib.hid (QY5.out.below hB QY5.out.lt)
    have S2Y6 : Hid (SpotRow (Y5.alloc (.cells #[.slice sa2 sl sc2, .slice ea2 el ec2] 31)) sa2 sp) := Lib.hid (S2Y5.out.below hB)
    have E2Y6 : Hid (EdgeRow (Y5.alloc (.cells #[.slice sa2 sl sc2, .slice ea2 el ec2] 31)) ea2 (sentL es k node amt)) := Lib.hid (E2Y5.out.below hB)
    have RY6 : Hid (Blk (Y5.alloc (.cells #[.slice sa2 sl sc2, .slice ea2 el ec2] 31)) Y5.heap.size 31 [.slice sa2 sl sc2, .slice ea2 el ec2]) := Lib.hid (Blk.new _ _ [.slice sa2 sl sc2, .slice ea2 el ec2])
    clear hB BY5 S0Y5 E0Y5 PY5 S1Y5 E1Y5 QY5 S2Y5 E2Y5
    have cQ0 := Blk.cell QY6.out 0
    have cQ1 := Blk.cell QY6.out 1
    simp only [List.getElem?_cons_zero, List.getElem?_cons_succ] at cQ0 cQ1
    go_wp2_with fail
    clear cQ0 cQ1
    generalize (Y5.alloc (.cells #[.slice sa2 sl sc2, .slice ea2 el ec2] 31)) = Y6 at BY6 S0Y6 E0Y6 PY6 S1Y6 E1Y6 QY6 S2Y6 E2Y6 RY6 ⊢
    generalize Y5.heap.size = gr at RY6 ⊢
    refine (all_any sa1 sl sc1 ea1 el ec1 es Y6 E1Y6.out HEL.out (by omega) HOK.out).mono ?_
    rintro e Y7 ⟨rfl, hB⟩
    have BY7 : Hid (Below w.heap.size w Y7) := Lib.hid (BY6.out.trans (hB.mono BY6.out.size))
    have S0Y7 : Hid (SpotRow Y7 sa0 sp) := Lib.hid (S0Y6.out.below hB)
    have E0Y7 : Hid (EdgeRow Y7 ea0 es) := Lib.hid (E0Y6.out.below hB)
    have PY7 : Hid (Blk Y7 gp 25 [.slice sa0 sl sc0, .slice ea0 el ec0]) := Lib.hid (PY6.out.below hB PY6.out.lt)
    have S1Y7 : Hid (SpotRow Y7 sa1 sp) := Lib.hid (S1Y6.out.below hB)
    have E1Y7 : Hid (EdgeRow Y7 ea1 es) := Lib.hid (E1Y6.out.below hB)
    have QY7 : Hid (Blk Y7 gq 31 [.slice sa1 sl sc1, .slice ea1 el ec1]) := Lib.hid (QY6.out.below hB QY6.out.lt)
    have S2Y7 : Hid (SpotRow Y7 sa2 sp) := Lib.hid (S2Y6.out.below hB)
    have E2Y7 : Hid (EdgeRow Y7 ea2 (sentL es k node amt)) := Lib.hid (E2Y6.out.below hB)
    have RY7 : Hid (Blk Y7 gr 31 [.slice sa2 sl sc2, .slice ea2 el ec2]) := Lib.hid (RY6.out.below hB RY6.out.lt)
    clear BY6 S0Y6 E0Y6 PY6 S1Y6 E1Y6 QY6 S2Y6 E2Y6 RY6
    clear hB
    have cR0 := Blk.cell RY7.out 0
    have cR1 := Blk.cell RY7.out 1
    simp only [List.getElem?_cons_zero, List.getElem?_cons_succ] at cR0 cR1
    go_wp2_with fail
    clear cR0 cR1
    refine (all_any sa2 sl sc2 ea2 el ec2 (sentL es k node amt) Y7 E2Y7.out (by rw [HLN.out, HEL.out]) (by omega) (sent_ok H0.out HOK.out HAM.out).1).mono ?_
    rintro e Y8 ⟨rfl, hB⟩
    have BY8 : Hid (Below w.heap.size w Y8) := Lib.hid (BY7.out.trans (hB.mono BY7.out.size))
    have S0Y8 : Hid (SpotRow Y8 sa0 sp) := Lib.hid (S0Y7.out.below hB)
    have E0Y8 : Hid (EdgeRow Y8 ea0 es) := Lib.hid (E0Y7.out.below hB)
    have PY8 : Hid (Blk Y8 gp 25 [.slice sa0 sl sc0, .slice ea0 el ec0]) := Lib.hid (PY7.out.below hB PY7.out.lt)
    have S1Y8 : Hid (SpotRow Y8 sa1 sp) := Lib.hid (S1Y7.out.below hB)
    have E1Y8 : Hid (EdgeRow Y8 ea1 es) := Lib.hid (E1Y7.out.below hB)
    have QY8 : Hid (Blk Y8 gq 31 [.slice sa1 sl sc1, .slice ea1 el ec1]) := Lib.hid (QY7.out.below hB QY7.out.lt)
    have S2Y8 : Hid (SpotRow Y8 sa2 sp) := Lib.hid (S2Y7.out.below hB)
    have E2Y8 : Hid (EdgeRow Y8 ea2 (sentL es k node amt)) := Lib.hid (E2Y7.out.below hB)
    have RY8 : Hid (Blk Y8 gr 31 [.slice sa2 sl sc2, .slice ea2 el ec2]) := Lib.hid (RY7.out.below hB RY7.out.lt)
    clear BY7 S0Y7 E0Y7 PY7 S1Y7 E1Y7 QY7 S2Y7 E2Y7 RY7
    clear hB
    rw [(sent_ok H0.out HOK.out HAM.out).2.2.1, (sent_ok H0.out HOK.out HAM.out).2.2.2]
    obtain ⟨be, oe, rfl, hce⟩ := E1Y8.out.at_ HK.out
    have hk : k < el := by have := HK.out; rw [HEL.out] at this; exact this
    have CY8 : Hid (EdAt Y8 be (oe + k * 8) (es.getD k ed0)) := Lib.hid (hce)
    clear hce
    obtain ⟨p, q, c, d, f, g, h, i, hx⟩ : ∃ p q c d f g h i, es.getD k ed0 = ⟨p, q, c, d, f, g, h, i⟩ := ⟨_, _, _, _, _, _, _, _, rfl⟩
    have HX := Lib.hid hx
    clear hx
    have e0 : Y8.cell? ⟨be, oe + k * 8, none⟩ = some (.int .i64 p) := CY8.out.2 0 _ (by rw [HX.out]; rfl)
    have e1 : Y8.cell? ⟨be, oe + k * 8 + 1, none⟩ = some (.int .i64 q) := CY8.out.2 1 _ (by rw [HX.out]; rfl)
    have e2 : Y8.cell? ⟨be, oe + k * 8 + 2, none⟩ = some (.int .u64 c) := CY8.out.2 2 _ (by rw [HX.out]; rfl)
    have e3 : Y8.cell? ⟨be, oe + k * 8 + 3, none⟩ = some (.int .u64 d) := CY8.out.2 3 _ (by rw [HX.out]; rfl)
    have e4 : Y8.cell? ⟨be, oe + k * 8 + 4, none⟩ = some (.int .u64 f) := CY8.out.2 4 _ (by rw [HX.out]; rfl)
    have e5 : Y8.cell? ⟨be, oe + k * 8 + 5, none⟩ = some (.int .u64 g) := CY8.out.2 5 _ (by rw [HX.out]; rfl)
    have e6 : Y8.cell? ⟨be, oe + k * 8 + 6, none⟩ = some (.int .u64 h) := CY8.out.2 6 _ (by rw [HX.out]; rfl)
    have e7 : Y8.cell? ⟨be, oe + k * 8 + 7, none⟩ = some (.int .u64 i) := CY8.out.2 7 _ (by rw [HX.out]; rfl)
    have cQ0 := Blk.cell QY8.out 0
    have cQ1 := Blk.cell QY8.out 1
    simp only [List.getElem?_cons_zero, List.getElem?_cons_succ] at cQ0 cQ1
    go_wp2_with fail
    clear cQ0 cQ1
    refine (eside_any ⟨p, q, c, d, f, g, h, i⟩ node Y8).mono ?_
    rintro e Y9 ⟨rfl, hB⟩
    clear e0 e1 e2 e3 e4 e5 e6 e7
    have BY9 : Hid (Below w.heap.size w Y9) := Lib.hid (BY8.out.trans (hB.mono BY8.out.size))
    have S0Y9 : Hid (SpotRow Y9 sa0 sp) := Lib.hid (S0Y8.out.below hB)
    have E0Y9 : Hid (EdgeRow Y9 ea0 es) := Lib.hid (E0Y8.out.below hB)
    have PY9 : Hid (Blk Y9 gp 25 [.slice sa0 sl sc0, .slice ea0 el ec0]) := Lib.hid (PY8.out.below hB PY8.out.lt)
    have S1Y9 : Hid (SpotRow Y9 sa1 sp) := Lib.hid (S1Y8.out.below hB)
    have E1Y9 : Hid (EdgeRow Y9 (some ⟨be, oe, none⟩) es) := Lib.hid (E1Y8.out.below hB)
    have QY9 : Hid (Blk Y9 gq 31 [.slice sa1 sl sc1, .slice (some ⟨be, oe, none⟩) el ec1]) := Lib.hid (QY8.out.below hB QY8.out.lt)
    have S2Y9 : Hid (SpotRow Y9 sa2 sp) := Lib.hid (S2Y8.out.below hB)
    have E2Y9 : Hid (EdgeRow Y9 ea2 (sentL es k node amt)) := Lib.hid (E2Y8.out.below hB)
    have RY9 : Hid (Blk Y9 gr 31 [.slice sa2 sl sc2, .slice ea2 el ec2]) := Lib.hid (RY8.out.below hB RY8.out.lt)
    have CY9 : Hid (EdAt Y9 be (oe + k * 8) (es.getD k ed0)) := Lib.hid (CY8.out.below hB)
    clear BY8 S0Y8 E0Y8 PY8 S1Y8 E1Y8 QY8 S2Y8 E2Y8 RY8 CY8
    clear hB
    rw [← HX.out]
    rcases HSD.out with hsd | hsd
    · rw [hsd]
      have HS := Lib.hid hsd
      clear hsd
      go_wp2_with fail
      have hz0 : Y9.heap.size ≤ Y9.heap.size := Nat.le_refl _
      have Zw : Hid (Below Y9.heap.size Y9 Y9) := Lib.hid (Below.refl _ _)
      have hn : q = endE (es.getD k ed0) (1 - sideE (es.getD k ed0) node) := by rw [HX.out, ← HX.out, HS.out, HX.out]; simp [endE]
      have HNN := Lib.hid hn
      clear hn
      have e0 : Y9.cell? ⟨be, oe + k * 8, none⟩ = some (.int .i64 p) := CY9.out.2 0 _ (by rw [HX.out]; rfl)
      have e1 : Y9.cell? ⟨be, oe + k * 8 + 1, none⟩ = some (.int .i64 q) := CY9.out.2 1 _ (by rw [HX.out]; rfl)
      have HE0 := Lib.hid e0
      have HE1 := Lib.hid e1
      clear e0 e1
      have hBz : Below Y9.heap.size Y9 Y9.drew := below_drewN (Below.refl _ _) 1
      have ZX0 : Hid (Below Y9.heap.size Y9 Y9.drew) := Lib.hid (Zw.out.trans (hBz.mono Zw.out.size))
      clear hBz
      refine wp_region_held_drew (S := fun w' => Below Y9.heap.size Y9 w') (by kernel_rfl) (ZX0.out) (fun hHeld => ?_)
      generalize Y9.drew = X0 at hHeld ZX0 ⊢
      refine wpAnyH_take (i := 0) (v := .agg #[.slice sa2 sl sc2, .slice ea2 el ec2]) rfl (by kernel_rfl) (by kernel_rfl) (by kernel_rfl) (fun _ _ _ h => h) (Or.inl ⟨by rfl, by intro w' h; have k0 := (h.cell (p := ⟨gr, 0, none⟩) RY9.out.lt).trans (Blk.cell RY9.out 0); simp only [List.getElem?_cons_zero] at k0; have k1 := (h.cell (p := ⟨gr, 1, none⟩) RY9.out.lt).trans (Blk.cell RY9.out 1); simp only [List.getElem?_cons_zero, List.getElem?_cons_succ] at k1; go_simp⟩) hHeld ?_
      show wpAnyH _ _ _ _ _ _ _ (Act.put _ (some 60) _) _
      simp only [Act.put, List.setIfInBounds_toArray, List.set_cons_zero, List.set_cons_succ]
      refine wpAnyH_take (i := 1) (v := .int .i64 (k : Int)) rfl (by kernel_rfl) (by kernel_rfl) (by kernel_rfl) (fun _ _ _ h => h) (Or.inl ⟨by rfl, fun w _ => by rfl⟩) hHeld ?_
      show wpAnyH _ _ _ _ _ _ _ (Act.put _ (some 61) _) _
      simp only [Act.put, List.setIfInBounds_toArray, List.set_cons_zero, List.set_cons_succ]
      refine wpAnyH_take (i := 2) (v := .pointer (some ⟨gq, 1, none⟩)) rfl (by kernel_rfl) (by kernel_rfl) (by kernel_rfl) (fun _ _ _ h => h) (Or.inl ⟨by rfl, by intro w' h; go_simp⟩) hHeld ?_
      show wpAnyH _ _ _ _ _ _ _ (Act.put _ (some 62) _) _
      simp only [Act.put, List.setIfInBounds_toArray, List.set_cons_zero, List.set_cons_succ]
      refine wpAnyH_take (i := 3) (v := .slice (some ⟨be, oe, none⟩) el ec1) rfl (by kernel_rfl) (by kernel_rfl) (by kernel_rfl) (fun _ _ _ h => h) (Or.inl ⟨by rfl, by intro w' h; have k1 := (h.cell (p := ⟨gq, 1, none⟩) QY9.out.lt).trans (Blk.cell QY9.out 1); simp only [List.getElem?_cons_zero, List.getElem?_cons_succ] at k1; go_simp⟩) hHeld ?_
      show wpAnyH _ _ _ _ _ _ _ (Act.put _ (some 63) _) _
      simp only [Act.put, List.setIfInBounds_toArray, List.set_cons_zero, List.set_cons_succ]
      refine wpAnyH_take (i := 4) (v := .int .i64 (k : Int)) rfl (by kernel_rfl) (by kernel_rfl) (by kernel_rfl) (fun _ _ _ h => h) (Or.inl ⟨by rfl, fun w _ => by rfl⟩) hHeld ?_
      show wpAnyH _ _ _ _ _ _ _ (Act.put _ (some 64) _) _
      simp only [Act.put, List.setIfInBounds_toArray, List.set_cons_zero, List.set_cons_succ]
      refine wpAnyH_take (i := 5) (v := .int .i64 0) rfl (by kernel_rfl) (by kernel_rfl) (by kernel_rfl) (fun _ _ _ h => h) (Or.inl ⟨by rfl, fun w _ => by rfl⟩) hHeld ?_
      show wpAnyH _ _ _ _ _ _ _ (Act.put _ (some 65) _) _
      simp only [Act.put, List.setIfInBounds_toArray, List.set_cons_zero, List.set_cons_succ]
      refine wpAnyH_take (i := 6) (v := .int .i64 1) rfl (by kernel_rfl) (by kernel_rfl) (by kernel_rfl) (fun _ _ _ h => h) (Or.inl ⟨by rfl, by intro w' h; go_simp; (first | rfl | decide)⟩) hHeld ?_
      show wpAnyH _ _ _ _ _ _ _ (Act.put _ (some 66) _) _
      simp only [Act.put, List.setIfInBounds_toArray, List.set_cons_zero, List.set_cons_succ]
      refine wpAnyH_take (i := 7) (v := .pointer (some ⟨be, oe + k * 8, none⟩)) rfl (by kernel_rfl) (by kernel_rfl) (by kernel_rfl) (fun _ _ _ h => h) (Or.inl ⟨by rfl, by intro w' h; go_simp⟩) hHeld ?_
      show wpAnyH _ _ _ _ _ _ _ (Act.put _ (some 67) _) _
      simp only [Act.put, List.setIfInBounds_toArray, List.set_cons_zero, List.set_cons_succ]
      refine wpAnyH_take (i := 8) (v := .pointer (some ⟨be, oe + k * 8, none⟩)) rfl (by kernel_rfl) (by kernel_rfl) (by kernel_rfl) (fun _ _ _ h => h) (Or.inl ⟨by rfl, by intro w' h; go_simp⟩) hHeld ?_
      show wpAnyH _ _ _ _ _ _ _ (Act.put _ (some 68) _) _
      simp only [Act.put, List.setIfInBounds_toArray, List.set_cons_zero, List.set_cons_succ]
      refine wpAnyH_take (i := 9) (v := .pointer (some ⟨be, oe + k * 8 + 1, none⟩)) rfl (by kernel_rfl) (by kernel_rfl) (by kernel_rfl) (fun _ _ _ h => h) (Or.inl ⟨by rfl, by intro w' h; go_simp⟩) hHeld ?_
      show wpAnyH _ _ _ _ _ _ _ (Act.put _ (some 69) _) _
      simp only [Act.put, List.setIfInBounds_toArray, List.set_cons_zero, List.set_cons_succ]
      refine wpAnyH_take (i := 10) (v := .int .i64 q) rfl (by kernel_rfl) (by kernel_rfl) (by kernel_rfl) (fun _ _ _ h => h) (Or.inl ⟨by rfl, by intro w' h; have k0 := (h.cell (p := ⟨be, oe + k * 8 + 1, none⟩) CY9.out.1).trans HE1.out; go_simp⟩) hHeld ?_
      show wpAnyH _ _ _ _ _ _ _ (Act.put _ (some 70) _) _
      simp only [Act.put, List.setIfInBounds_toArray, List.set_cons_zero, List.set_cons_succ]
      refine wpAnyH_take (i := 11) (v := .int .u64 amt) rfl (by kernel_rfl) (by kernel_rfl) (by kernel_rfl) (fun _ _ _ h => h) (Or.inl ⟨by rfl, fun w _ => by rfl⟩) hHeld ?_
      show wpAnyH _ _ _ _ _ _ _ (Act.put _ (some 71) _) _
      simp only [Act.put, List.setIfInBounds_toArray, List.set_cons_zero, List.set_cons_succ]
      refine wpAnyH_ready (rs := [12, 16]) (by kernel_rfl) (by simp) ?_
      refine AllReadyH.cons rfl (fun K hK => ?_) (AllReadyH.cons rfl (fun K hK => ?_) AllReadyH.nil)
      · refine step_call rfl 27 #[.tmp 60, .tmp 61, .tmp 70, .tmp 71] #[31, 3, 3, 40] rfl #[.agg #[.slice sa2 sl sc2, .slice ea2 el ec2], .int .i64 (k : Int), .int .i64 q, .int .u64 amt] (by simp [Act.eval]) (by go_simp) (back_any sa2 sl sc2 ea2 el ec2 sp es k node amt q X0 (HSL.out ▸ H0.out) HOK.out HAM.out HSL.out HEL.out (S2Y9.out.below ZX0.out) (E2Y9.out.below ZX0.out) HN3.out HN4.out hs20 he30 HNN.out) ?_
        rintro e X1 ⟨sa3, sc3, ea3, ec3, rfl, hS, hE, hB⟩
        have ZX1 : Hid (Below Y9.heap.size Y9 X1) := Lib.hid (ZX0.out.trans (hB.mono ZX0.out.size))
        have S3X1 : Hid (SpotRow X1 sa3 sp) := Lib.hid (hS)
        have E3X1 : Hid (EdgeRow X1 ea3 es) := Lib.hid (hE)
        clear ZX0 hB hS hE
        refine ⟨_, rfl, hK.out _ _ (ZX1.out) (fun hHeld => ?_)⟩
        clear hK K
        show wpAnyH _ _ _ _ _ _ _ (Act.put _ (some 72) _) _
        simp only [Act.put, List.setIfInBounds_toArray, List.set_cons_zero, List.set_cons_succ]
        refine wpAnyH_take (i := 13) (v := .tuple #[.agg #[.slice sa3 sl sc3, .slice ea3 el ec3], .int .i64 0]) rfl (by kernel_rfl) (by kernel_rfl) (by kernel_rfl) (fun _ _ _ h => h) (Or.inl ⟨by rfl, fun w _ => by rfl⟩) hHeld ?_
        show wpAnyH _ _ _ _ _ _ _ (Act.put _ (some 59) _) _
        simp only [Act.put, List.setIfInBounds_toArray, List.set_cons_zero, List.set_cons_succ]
        refine wpAnyH_take (i := 14) (v := .agg #[.slice sa3 sl sc3, .slice ea3 el ec3]) rfl (by kernel_rfl) (by kernel_rfl) (by kernel_rfl) (fun _ _ _ h => h) (Or.inl ⟨by rfl, by intro w' h; go_simp⟩) hHeld ?_
        show wpAnyH _ _ _ _ _ _ _ (Act.put _ (some 73) _) _
        simp only [Act.put, List.setIfInBounds_toArray, List.set_cons_zero, List.set_cons_succ]
        refine wpAnyH_take (i := 15) (v := .int .i64 0) rfl (by kernel_rfl) (by kernel_rfl) (by kernel_rfl) (fun _ _ _ h => h) (Or.inl ⟨by rfl, by intro w' h; go_simp⟩) hHeld ?_
        show wpAnyH _ _ _ _ _ _ _ (Act.put _ (some 74) _) _
        simp only [Act.put, List.setIfInBounds_toArray, List.set_cons_zero, List.set_cons_succ]
        refine wpAnyH_ready (rs := [16]) (by kernel_rfl) (by simp) ?_
        refine AllReadyH.cons rfl (fun K hK => ?_) AllReadyH.nil
        refine step_web rfl rfl ?_
        intro X2 gz hT hg hB
        have hgz : Y9.heap.size ≤ gz := Nat.le_trans ZX1.out.size hg
        have ZX2 : Hid (Below Y9.heap.size Y9 X2) := Lib.hid (ZX1.out.trans (hB.mono ZX1.out.size))
        have S3X2 : Hid (SpotRow X2 sa3 sp) := Lib.hid (S3X1.out.below hB)
        have E3X2 : Hid (EdgeRow X2 ea3 es) := Lib.hid (E3X1.out.below hB)
        have TX2 : Hid (Blk X2 gz 31 [.slice none 0 0, .slice none 0 0]) := Lib.hid (hT)
        clear ZX1 S3X1 E3X1 hB hT hg
        refine hK.out _ _ (ZX2.out) (fun hHeld => ?_)
        clear hK K
        show wpAnyH _ _ _ _ _ _ _ (Act.put _ (some 17) _) _
        simp only [Act.put, List.setIfInBounds_toArray, List.set_cons_zero, List.set_cons_succ]
        refine wpAnyH_ready (rs := [17]) (by kernel_rfl) (by simp) ?_
        refine AllReadyH.cons rfl (fun K hK => ?_) AllReadyH.nil
        refine step_keepW rfl (.tmp 17) (.tmp 73) rfl gz _ _ _ _ _ _ _ _ _ _ _ _ rfl rfl TX2.out ?_
        intro X3 hT hS hE hU
        have TX3 : Hid (Blk X3 gz 31 [.slice sa3 sl sc3, .slice ea3 el ec3]) := Lib.hid (hT)
        have S3X3 : Hid (SpotRow X3 sa3 sp) := Lib.hid (hS _ S3X2.out)
        have E3X3 : Hid (EdgeRow X3 ea3 es) := Lib.hid (hE _ E3X2.out)
        have ZX3 : Hid (Below Y9.heap.size Y9 X3) := Lib.hid (hU _ _ hgz ZX2.out)
        clear  hT hS hE hU
        refine hK.out _ _ (ZX3.out) (fun hHeld => ?_)
        clear hK K
        show wpAnyH _ _ _ _ _ _ _ (Act.put _ none _) _
        simp only [Act.put]
        refine wpAnyH_take (i := 18) (v := .int .i64 0) rfl (by kernel_rfl) (by kernel_rfl) (by kernel_rfl) (fun _ _ _ h => h) (Or.inl ⟨by rfl, fun w _ => by rfl⟩) hHeld ?_
        show wpAnyH _ _ _ _ _ _ _ (Act.put _ (some 18) _) _
        simp only [Act.put, List.setIfInBounds_toArray, List.set_cons_zero, List.set_cons_succ]
        refine wpAnyH_done (by kernel_rfl) ?_ _
        clear hHeld
        have BX3 : Hid (Below w.heap.size w X3) := Lib.hid (BY9.out.trans (ZX3.out.mono BY9.out.size))
        have S0X3 : Hid (SpotRow X3 sa0 sp) := Lib.hid (S0Y9.out.below ZX3.out)
        have E0X3 : Hid (EdgeRow X3 ea0 es) := Lib.hid (E0Y9.out.below ZX3.out)
        have PX3 : Hid (Blk X3 gp 25 [.slice sa0 sl sc0, .slice ea0 el ec0]) := Lib.hid (PY9.out.below ZX3.out PY9.out.lt)
        go_wp2_with fail
        have hBz : Below X3.heap.size X3 X3.drew := below_drewN (Below.refl _ _) 1
        have BV0 : Hid (Below w.heap.size w X3.drew) := Lib.hid (BX3.out.trans (hBz.mono BX3.out.size))
        have S0V0 : Hid (SpotRow X3.drew sa0 sp) := Lib.hid (S0X3.out.below hBz)
        have E0V0 : Hid (EdgeRow X3.drew ea0 es) := Lib.hid (E0X3.out.below hBz)
        have PV0 : Hid (Blk X3.drew gp 25 [.slice sa0 sl sc0, .slice ea0 el ec0]) := Lib.hid (PX3.out.below hBz PX3.out.lt)
        have TV0 : Hid (Blk X3.drew gz 31 [.slice sa3 sl sc3, .slice ea3 el ec3]) := Lib.hid (TX3.out.below hBz TX3.out.lt)
        have S3V0 : Hid (SpotRow X3.drew sa3 sp) := Lib.hid (S3X3.out.below hBz)
        have E3V0 : Hid (EdgeRow X3.drew ea3 es) := Lib.hid (E3X3.out.below hBz)
        clear hBz
        refine wp_region_held_drew (S := fun w' => Blk w' gz 31 [.slice sa3 sl sc3, .slice ea3 el ec3] ∧ Blk w' gp 25 [.slice sa0 sl sc0, .slice ea0 el ec0]) (by kernel_rfl) (⟨TV0.out, PV0.out⟩) (fun hHeld => ?_)
        generalize X3.drew = V0 at hHeld BV0 S0V0 E0V0 PV0 TV0 S3V0 E3V0 ⊢
        refine wpAnyH_ready (rs := [0]) (by kernel_rfl) (by simp) ?_
        refine AllReadyH.cons rfl (fun K hK => ?_) AllReadyH.nil
        refine step_call rfl 14 #[] #[] rfl #[] (by simp) (by go_simp) (wawake_any V0) ?_
        rintro e X1 ⟨rfl, hB⟩
        have BX1 : Hid (Below w.heap.size w X1) := Lib.hid (BV0.out.trans (hB.mono BV0.out.size))
        have S0X1 : Hid (SpotRow X1 sa0 sp) := Lib.hid (S0V0.out.below hB)
        have E0X1 : Hid (EdgeRow X1 ea0 es) := Lib.hid (E0V0.out.below hB)
        have PX1 : Hid (Blk X1 gp 25 [.slice sa0 sl sc0, .slice ea0 el ec0]) := Lib.hid (PV0.out.below hB PV0.out.lt)
        have TX1 : Hid (Blk X1 gz 31 [.slice sa3 sl sc3, .slice ea3 el ec3]) := Lib.hid (TV0.out.below hB TV0.out.lt)
        have S3X1 : Hid (SpotRow X1 sa3 sp) := Lib.hid (S3V0.out.below hB)
        have E3X1 : Hid (EdgeRow X1 ea3 es) := Lib.hid (E3V0.out.below hB)
        clear BV0 S0V0 E0V0 PV0 TV0 S3V0 E3V0 hB
        refine ⟨_, rfl, hK.out _ _ (⟨TX1.out, PX1.out⟩) (fun hHeld => ?_)⟩
        clear hK K
        show wpAnyH _ _ _ _ _ _ _ (Act.put _ (some 75) _) _
        simp only [Act.put, List.setIfInBounds_toArray, List.set_cons_zero, List.set_cons_succ]
        refine wpAnyH_take (i := 1) (v := .bool true) rfl (by kernel_rfl) (by kernel_rfl) (by kernel_rfl) (fun _ _ _ h => h) (Or.inl ⟨by rfl, fun w _ => by rfl⟩) hHeld ?_
        show wpAnyH _ _ _ _ _ _ _ (Act.put _ (some 76) _) _
        simp only [Act.put, List.setIfInBounds_toArray, List.set_cons_zero, List.set_cons_succ]
        refine wpAnyH_take (i := 2) (v := .int .i64 (allE es)) rfl (by kernel_rfl) (by kernel_rfl) (by kernel_rfl) (fun _ _ _ h => h) (Or.inl ⟨by rfl, fun w _ => by rfl⟩) hHeld ?_
        show wpAnyH _ _ _ _ _ _ _ (Act.put _ (some 77) _) _
        simp only [Act.put, List.setIfInBounds_toArray, List.set_cons_zero, List.set_cons_succ]
        refine wpAnyH_take (i := 3) (v := .int .i64 (allE es)) rfl (by kernel_rfl) (by kernel_rfl) (by kernel_rfl) (fun _ _ _ h => h) (Or.inl ⟨by rfl, fun w _ => by rfl⟩) hHeld ?_
        show wpAnyH _ _ _ _ _ _ _ (Act.put _ (some 78) _) _
        simp only [Act.put, List.setIfInBounds_toArray, List.set_cons_zero, List.set_cons_succ]
        refine wpAnyH_take (i := 4) (v := .bool true) rfl (by kernel_rfl) (by kernel_rfl) (by kernel_rfl) (fun _ _ _ h => h) (Or.inl ⟨by rfl, by intro w' h; go_simp⟩) hHeld ?_
        show wpAnyH _ _ _ _ _ _ _ (Act.put _ (some 79) _) _
        simp only [Act.put, List.setIfInBounds_toArray, List.set_cons_zero, List.set_cons_succ]
        refine wpAnyH_take (i := 5) (v := .bool true) rfl (by kernel_rfl) (by kernel_rfl) (by kernel_rfl) (fun _ _ _ h => h) (Or.inl ⟨by rfl, by intro w hSw; first | rfl | go_simp⟩) hHeld ?_
        show wpAnyH _ _ _ _ _ _ _ (Act.put _ (some 80) _) _
        simp only [Act.put, List.setIfInBounds_toArray, List.set_cons_zero, List.set_cons_succ]
        refine wpAnyH_take (i := 6) (v := .bool true) rfl (by kernel_rfl) (by kernel_rfl) (by kernel_rfl) (fun _ _ _ h => h) (Or.inl ⟨by rfl, fun w _ => by rfl⟩) hHeld ?_
        show wpAnyH _ _ _ _ _ _ _ (Act.put _ (some 81) _) _
        simp only [Act.put, List.setIfInBounds_toArray, List.set_cons_zero, List.set_cons_succ]
        refine wpAnyH_take (i := 7) (v := .int .u64 (allV es)) rfl (by kernel_rfl) (by kernel_rfl) (by kernel_rfl) (fun _ _ _ h => h) (Or.inl ⟨by rfl, fun w _ => by rfl⟩) hHeld ?_
        show wpAnyH _ _ _ _ _ _ _ (Act.put _ (some 82) _) _
        simp only [Act.put, List.setIfInBounds_toArray, List.set_cons_zero, List.set_cons_succ]
        refine wpAnyH_take (i := 8) (v := .int .u64 (allV es)) rfl (by kernel_rfl) (by kernel_rfl) (by kernel_rfl) (fun _ _ _ h => h) (Or.inl ⟨by rfl, fun w _ => by rfl⟩) hHeld ?_
        show wpAnyH _ _ _ _ _ _ _ (Act.put _ (some 83) _) _
        simp only [Act.put, List.setIfInBounds_toArray, List.set_cons_zero, List.set_cons_succ]
        refine wpAnyH_take (i := 9) (v := .bool true) rfl (by kernel_rfl) (by kernel_rfl) (by kernel_rfl) (fun _ _ _ h => h) (Or.inl ⟨by rfl, by intro w' h; go_simp⟩) hHeld ?_
        show wpAnyH _ _ _ _ _ _ _ (Act.put _ (some 84) _) _
        simp only [Act.put, List.setIfInBounds_toArray, List.set_cons_zero, List.set_cons_succ]
        refine wpAnyH_take (i := 10) (v := .bool true) rfl (by kernel_rfl) (by kernel_rfl) (by kernel_rfl) (fun _ _ _ h => h) (Or.inl ⟨by rfl, by intro w hSw; first | rfl | go_simp⟩) hHeld ?_
        show wpAnyH _ _ _ _ _ _ _ (Act.put _ (some 85) _) _
        simp only [Act.put, List.setIfInBounds_toArray, List.set_cons_zero, List.set_cons_succ]
        refine wpAnyH_take (i := 11) (v := .bool true) rfl (by kernel_rfl) (by kernel_rfl) (by kernel_rfl) (fun _ _ _ h => h) (Or.inl ⟨by rfl, fun w _ => by rfl⟩) hHeld ?_
        show wpAnyH _ _ _ _ _ _ _ (Act.put _ (some 86) _) _
        simp only [Act.put, List.setIfInBounds_toArray, List.set_cons_zero, List.set_cons_succ]
        refine wpAnyH_take (i := 12) (v := .int .i64 0) rfl (by kernel_rfl) (by kernel_rfl) (by kernel_rfl) (fun _ _ _ h => h) (Or.inl ⟨by rfl, fun w _ => by rfl⟩) hHeld ?_
        show wpAnyH _ _ _ _ _ _ _ (Act.put _ (some 87) _) _
        simp only [Act.put, List.setIfInBounds_toArray, List.set_cons_zero, List.set_cons_succ]
        refine wpAnyH_take (i := 13) (v := .bool true) rfl (by kernel_rfl) (by kernel_rfl) (by kernel_rfl) (fun _ _ _ h => h) (Or.inl ⟨by rfl, by intro w' h; go_simp⟩) hHeld ?_
        show wpAnyH _ _ _ _ _ _ _ (Act.put _ (some 88) _) _
        simp only [Act.put, List.setIfInBounds_toArray, List.set_cons_zero, List.set_cons_succ]
        refine wpAnyH_take (i := 14) (v := .bool true) rfl (by kernel_rfl) (by kernel_rfl) (by kernel_rfl) (fun _ _ _ h => h) (Or.inl ⟨by rfl, by intro w hSw; first | rfl | go_simp⟩) hHeld ?_
        show wpAnyH _ _ _ _ _ _ _ (Act.put _ (some 89) _) _
        simp only [Act.put, List.setIfInBounds_toArray, List.set_cons_zero, List.set_cons_succ]
        refine wpAnyH_take (i := 15) (v := .bool true) rfl (by kernel_rfl) (by kernel_rfl) (by kernel_rfl) (fun _ _ _ h => h) (Or.inl ⟨by rfl, fun w _ => by rfl⟩) hHeld ?_
        show wpAnyH _ _ _ _ _ _ _ (Act.put _ (some 90) _) _
        simp only [Act.put, List.setIfInBounds_toArray, List.set_cons_zero, List.set_cons_succ]
        refine wpAnyH_take (i := 16) (v := .agg #[.slice sa3 sl sc3, .slice ea3 el ec3]) rfl (by kernel_rfl) (by kernel_rfl) (by kernel_rfl) (fun _ _ _ h => h) (Or.inl ⟨by rfl, by intro w' h; have k0 := Blk.cell h.1 0; simp only [List.getElem?_cons_zero] at k0; have k1 := Blk.cell h.1 1; simp only [List.getElem?_cons_zero, List.getElem?_cons_succ] at k1; go_simp⟩) hHeld ?_
        show wpAnyH _ _ _ _ _ _ _ (Act.put _ (some 91) _) _
        simp only [Act.put, List.setIfInBounds_toArray, List.set_cons_zero, List.set_cons_succ]
        refine wpAnyH_take (i := 18) (v := .agg #[.slice sa0 sl sc0, .slice ea0 el ec0]) rfl (by kernel_rfl) (by kernel_rfl) (by kernel_rfl) (fun _ _ _ h => h) (Or.inl ⟨by rfl, by intro w' h; have k0 := Blk.cell h.2 0; simp only [List.getElem?_cons_zero] at k0; have k1 := Blk.cell h.2 1; simp only [List.getElem?_cons_zero, List.getElem?_cons_succ] at k1; go_simp⟩) hHeld ?_
        show wpAnyH _ _ _ _ _ _ _ (Act.put _ (some 93) _) _
        simp only [Act.put, List.setIfInBounds_toArray, List.set_cons_zero, List.set_cons_succ]
        refine wpAnyH_ready (rs := [17]) (by kernel_rfl) (by simp) ?_
        refine AllReadyH.cons rfl (fun K hK => ?_) AllReadyH.nil
        refine step_call rfl 32 #[.tmp 91] #[31] rfl #[.agg #[.slice sa3 sl sc3, .slice ea3 el ec3]] (by simp [Act.eval]) (by go_simp) (wfrom_any sa3 sl sc3 ea3 el ec3 sp es X1 S3X1.out E3X1.out HSL.out HEL.out hs20 he30) ?_
        rintro e X2 ⟨sa4, sc4, ea4, ec4, rfl, hS, hE, hB⟩
        have BX2 : Hid (Below w.heap.size w X2) := Lib.hid (BX1.out.trans (hB.mono BX1.out.size))
        have S0X2 : Hid (SpotRow X2 sa0 sp) := Lib.hid (S0X1.out.below hB)
        have E0X2 : Hid (EdgeRow X2 ea0 es) := Lib.hid (E0X1.out.below hB)
        have PX2 : Hid (Blk X2 gp 25 [.slice sa0 sl sc0, .slice ea0 el ec0]) := Lib.hid (PX1.out.below hB PX1.out.lt)
        have TX2 : Hid (Blk X2 gz 31 [.slice sa3 sl sc3, .slice ea3 el ec3]) := Lib.hid (TX1.out.below hB TX1.out.lt)
        have S3X2 : Hid (SpotRow X2 sa3 sp) := Lib.hid (S3X1.out.below hB)
        have E3X2 : Hid (EdgeRow X2 ea3 es) := Lib.hid (E3X1.out.below hB)
        have S4X2 : Hid (SpotRow X2 sa4 sp) := Lib.hid (hS)
        have E4X2 : Hid (EdgeRow X2 ea4 es) := Lib.hid (hE)
        clear BX1 S0X1 E0X1 PX1 TX1 S3X1 E3X1 hB hS hE
        refine ⟨_, rfl, hK.out _ _ (⟨TX2.out, PX2.out⟩) (fun hHeld => ?_)⟩
        clear hK K
        show wpAnyH _ _ _ _ _ _ _ (Act.put _ (some 92) _) _
        simp only [Act.put, List.setIfInBounds_toArray, List.set_cons_zero, List.set_cons_succ]
        refine wpAnyH_ready (rs := [19]) (by kernel_rfl) (by simp) ?_
        refine AllReadyH.cons rfl (fun K hK => ?_) AllReadyH.nil
        refine step_call rfl 31 #[.tmp 92, .tmp 93] #[25, 25] rfl #[.agg #[.slice sa4 sl sc4, .slice ea4 el ec4], .agg #[.slice sa0 sl sc0, .slice ea0 el ec0]] (by simp [Act.eval]) (by go_simp) (wsame_any sa4 sl sc4 ea4 el ec4 sa0 sc0 ea0 ec0 sp es X2 S4X2.out E4X2.out S0X2.out E0X2.out HSL.out HEL.out hs20 he30) ?_
        rintro e X3 ⟨rfl, hB⟩
        have BX3 : Hid (Below w.heap.size w X3) := Lib.hid (BX2.out.trans (hB.mono BX2.out.size))
        have S0X3 : Hid (SpotRow X3 sa0 sp) := Lib.hid (S0X2.out.below hB)
        have E0X3 : Hid (EdgeRow X3 ea0 es) := Lib.hid (E0X2.out.below hB)
        have PX3 : Hid (Blk X3 gp 25 [.slice sa0 sl sc0, .slice ea0 el ec0]) := Lib.hid (PX2.out.below hB PX2.out.lt)
        have TX3 : Hid (Blk X3 gz 31 [.slice sa3 sl sc3, .slice ea3 el ec3]) := Lib.hid (TX2.out.below hB TX2.out.lt)
        have S3X3 : Hid (SpotRow X3 sa3 sp) := Lib.hid (S3X2.out.below hB)
        have E3X3 : Hid (EdgeRow X3 ea3 es) := Lib.hid (E3X2.out.below hB)
        have S4X3 : Hid (SpotRow X3 sa4 sp) := Lib.hid (S4X2.out.below hB)
        have E4X3 : Hid (EdgeRow X3 ea4 es) := Lib.hid (E4X2.out.below hB)
        clear BX2 S0X2 E0X2 PX2 TX2 S3X2 E3X2 S4X2 E4X2 hB
        refine ⟨_, rfl, hK.out _ _ (⟨TX3.out, PX3.out⟩) (fun hHeld => ?_)⟩
        clear hK K
        show wpAnyH _ _ _ _ _ _ _ (Act.put _ (some 94) _) _
        simp only [Act.put, List.setIfInBounds_toArray, List.set_cons_zero, List.set_cons_succ]
        refine wpAnyH_take (i := 20) (v := .bool true) rfl (by kernel_rfl) (by kernel_rfl) (by kernel_rfl) (fun _ _ _ h => h) (Or.inl ⟨by rfl, by intro w hSw; first | rfl | go_simp⟩) hHeld ?_
        show wpAnyH _ _ _ _ _ _ _ (Act.put _ (some 95) _) _
        simp only [Act.put, List.setIfInBounds_toArray, List.set_cons_zero, List.set_cons_succ]
        refine wpAnyH_take (i := 21) (v := .bool true) rfl (by kernel_rfl) (by kernel_rfl) (by kernel_rfl) (fun _ _ _ h => h) (Or.inl ⟨by rfl, fun w _ => by rfl⟩) hHeld ?_
        show wpAnyH _ _ _ _ _ _ _ (Act.put _ (some 8) _) _
        simp only [Act.put, List.setIfInBounds_toArray, List.set_cons_zero, List.set_cons_succ]
        refine wpAnyH_done (by kernel_rfl) ?_ _
        go_wp2
        go_ret
        exact ⟨rfl, BX3.out⟩
      · refine step_web rfl rfl ?_
        intro X1 gz hT hg hB
        have hgz : Y9.heap.size ≤ gz := Nat.le_trans ZX0.out.size hg
        have ZX1 : Hid (Below Y9.heap.size Y9 X1) := Lib.hid (ZX0.out.trans (hB.mono ZX0.out.size))
        have TX1 : Hid (Blk X1 gz 31 [.slice none 0 0, .slice none 0 0]) := Lib.hid (hT)
        clear ZX0 hB hT hg
        refine hK.out _ _ (ZX1.out) (fun hHeld => ?_)
        clear hK K
        show wpAnyH _ _ _ _ _ _ _ (Act.put _ (some 17) _) _
        simp only [Act.put, List.setIfInBounds_toArray, List.set_cons_zero, List.set_cons_succ]
        refine wpAnyH_ready (rs := [12]) (by kernel_rfl) (by simp) ?_
        refine AllReadyH.cons rfl (fun K hK => ?_) AllReadyH.nil
        refine step_call rfl 27 #[.tmp 60, .tmp 61, .tmp 70, .tmp 71] #[31, 3, 3, 40] rfl #[.agg #[.slice sa2 sl sc2, .slice ea2 el ec2], .int .i64 (k : Int), .int .i64 q, .int .u64 amt] (by simp [Act.eval]) (by go_simp) (back_any sa2 sl sc2 ea2 el ec2 sp es k node amt q X1 (HSL.out ▸ H0.out) HOK.out HAM.out HSL.out HEL.out (S2Y9.out.below ZX1.out) (E2Y9.out.below ZX1.out) HN3.out HN4.out hs20 he30 HNN.out) ?_
        rintro e X2 ⟨sa3, sc3, ea3, ec3, rfl, hS, hE, hB⟩
        have ZX2 : Hid (Below Y9.heap.size Y9 X2) := Lib.hid (ZX1.out.trans (hB.mono ZX1.out.size))
        have TX2 : Hid (Blk X2 gz 31 [.slice none 0 0, .slice none 0 0]) := Lib.hid (TX1.out.below hB TX1.out.lt)
        have S3X2 : Hid (SpotRow X2 sa3 sp) := Lib.hid (hS)
        have E3X2 : Hid (EdgeRow X2 ea3 es) := Lib.hid (hE)
        clear ZX1 TX1 hB hS hE
        refine ⟨_, rfl, hK.out _ _ (ZX2.out) (fun hHeld => ?_)⟩
        clear hK K
        show wpAnyH _ _ _ _ _ _ _ (Act.put _ (some 72) _) _
        simp only [Act.put, List.setIfInBounds_toArray, List.set_cons_zero, List.set_cons_succ]
        refine wpAnyH_take (i := 13) (v := .tuple #[.agg #[.slice sa3 sl sc3, .slice ea3 el ec3], .int .i64 0]) rfl (by kernel_rfl) (by kernel_rfl) (by kernel_rfl) (fun _ _ _ h => h) (Or.inl ⟨by rfl, fun w _ => by rfl⟩) hHeld ?_
        show wpAnyH _ _ _ _ _ _ _ (Act.put _ (some 59) _) _
        simp only [Act.put, List.setIfInBounds_toArray, List.set_cons_zero, List.set_cons_succ]
        refine wpAnyH_take (i := 14) (v := .agg #[.slice sa3 sl sc3, .slice ea3 el ec3]) rfl (by kernel_rfl) (by kernel_rfl) (by kernel_rfl) (fun _ _ _ h => h) (Or.inl ⟨by rfl, by intro w' h; go_simp⟩) hHeld ?_
        show wpAnyH _ _ _ _ _ _ _ (Act.put _ (some 73) _) _
        simp only [Act.put, List.setIfInBounds_toArray, List.set_cons_zero, List.set_cons_succ]
        refine wpAnyH_take (i := 15) (v := .int .i64 0) rfl (by kernel_rfl) (by kernel_rfl) (by kernel_rfl) (fun _ _ _ h => h) (Or.inl ⟨by rfl, by intro w' h; go_simp⟩) hHeld ?_
        show wpAnyH _ _ _ _ _ _ _ (Act.put _ (some 74) _) _
        simp only [Act.put, List.setIfInBounds_toArray, List.set_cons_zero, List.set_cons_succ]
        refine wpAnyH_ready (rs := [17]) (by kernel_rfl) (by simp) ?_
        refine AllReadyH.cons rfl (fun K hK => ?_) AllReadyH.nil
        refine step_keepW rfl (.tmp 17) (.tmp 73) rfl gz _ _ _ _ _ _ _ _ _ _ _ _ rfl rfl TX2.out ?_
        intro X3 hT hS hE hU
        have TX3 : Hid (Blk X3 gz 31 [.slice sa3 sl sc3, .slice ea3 el ec3]) := Lib.hid (hT)
        have S3X3 : Hid (SpotRow X3 sa3 sp) := Lib.hid (hS _ S3X2.out)
        have E3X3 : Hid (EdgeRow X3 ea3 es) := Lib.hid (hE _ E3X2.out)
        have ZX3 : Hid (Below Y9.heap.size Y9 X3) := Lib.hid (hU _ _ hgz ZX2.out)
        clear  hT hS hE hU
        refine hK.out _ _ (ZX3.out) (fun hHeld => ?_)
        clear hK K
        show wpAnyH _ _ _ _ _ _ _ (Act.put _ none _) _
        simp only [Act.put]
        refine wpAnyH_take (i := 18) (v := .int .i64 0) rfl (by kernel_rfl) (by kernel_rfl) (by kernel_rfl) (fun _ _ _ h => h) (Or.inl ⟨by rfl, fun w _ => by rfl⟩) hHeld ?_
        show wpAnyH _ _ _ _ _ _ _ (Act.put _ (some 18) _) _
        simp only [Act.put, List.setIfInBounds_toArray, List.set_cons_zero, List.set_cons_succ]
        refine wpAnyH_done (by kernel_rfl) ?_ _
        clear hHeld
        have BX3 : Hid (Below w.heap.size w X3) := Lib.hid (BY9.out.trans (ZX3.out.mono BY9.out.size))
        have S0X3 : Hid (SpotRow X3 sa0 sp) := Lib.hid (S0Y9.out.below ZX3.out)
        have E0X3 : Hid (EdgeRow X3 ea0 es) := Lib.hid (E0Y9.out.below ZX3.out)
        have PX3 : Hid (Blk X3 gp 25 [.slice sa0 sl sc0, .slice ea0 el ec0]) := Lib.hid (PY9.out.below ZX3.out PY9.out.lt)
        go_wp2_with fail
        have hBz : Below X3.heap.size X3 X3.drew := below_drewN (Below.refl _ _) 1
        have BV0 : Hid (Below w.heap.size w X3.drew) := Lib.hid (BX3.out.trans (hBz.mono BX3.out.size))
        have S0V0 : Hid (SpotRow X3.drew sa0 sp) := Lib.hid (S0X3.out.below hBz)
        have E0V0 : Hid (EdgeRow X3.drew ea0 es) := Lib.hid (E0X3.out.below hBz)
        have PV0 : Hid (Blk X3.drew gp 25 [.slice sa0 sl sc0, .slice ea0 el ec0]) := Lib.hid (PX3.out.below hBz PX3.out.lt)
        have TV0 : Hid (Blk X3.drew gz 31 [.slice sa3 sl sc3, .slice ea3 el ec3]) := Lib.hid (TX3.out.below hBz TX3.out.lt)
        have S3V0 : Hid (SpotRow X3.drew sa3 sp) := Lib.hid (S3X3.out.below hBz)
        have E3V0 : Hid (EdgeRow X3.drew ea3 es) := Lib.hid (E3X3.out.below hBz)
        clear hBz
        refine wp_region_held_drew (S := fun w' => Blk w' gz 31 [.slice sa3 sl sc3, .slice ea3 el ec3] ∧ Blk w' gp 25 [.slice sa0 sl sc0, .slice ea0 el ec0]) (by kernel_rfl) (⟨TV0.out, PV0.out⟩) (fun hHeld => ?_)
        generalize X3.drew = V0 at hHeld BV0 S0V0 E0V0 PV0 TV0 S3V0 E3V0 ⊢
        refine wpAnyH_ready (rs := [0]) (by kernel_rfl) (by simp) ?_
        refine AllReadyH.cons rfl (fun K hK => ?_) AllReadyH.nil
        refine step_call rfl 14 #[] #[] rfl #[] (by simp) (by go_simp) (wawake_any V0) ?_
        rintro e X1 ⟨rfl, hB⟩
        have BX1 : Hid (Below w.heap.size w X1) := Lib.hid (BV0.out.trans (hB.mono BV0.out.size))
        have S0X1 : Hid (SpotRow X1 sa0 sp) := Lib.hid (S0V0.out.below hB)
        have E0X1 : Hid (EdgeRow X1 ea0 es) := Lib.hid (E0V0.out.below hB)
        have PX1 : Hid (Blk X1 gp 25 [.slice sa0 sl sc0, .slice ea0 el ec0]) := Lib.hid (PV0.out.below hB PV0.out.lt)
        have TX1 : Hid (Blk X1 gz 31 [.slice sa3 sl sc3, .slice ea3 el ec3]) := Lib.hid (TV0.out.below hB TV0.out.lt)
        have S3X1 : Hid (SpotRow X1 sa3 sp) := Lib.hid (S3V0.out.below hB)
        have E3X1 : Hid (EdgeRow X1 ea3 es) := Lib.hid (E3V0.out.below hB)
        clear BV0 S0V0 E0V0 PV0 TV0 S3V0 E3V0 hB
        refine ⟨_, rfl, hK.out _ _ (⟨TX1.out, PX1.out⟩) (fun hHeld => ?_)⟩
        clear hK K
        show wpAnyH _ _ _ _ _ _ _ (Act.put _ (some 75) _) _
        simp only [Act.put, List.setIfInBounds_toArray, List.set_cons_zero, List.set_cons_succ]
        refine wpAnyH_take (i := 1) (v := .bool true) rfl (by kernel_rfl) (by kernel_rfl) (by kernel_rfl) (fun _ _ _ h => h) (Or.inl ⟨by rfl, fun w _ => by rfl⟩) hHeld ?_
        show wpAnyH _ _ _ _ _ _ _ (Act.put _ (some 76) _) _
        simp only [Act.put, List.setIfInBounds_toArray, List.set_cons_zero, List.set_cons_succ]
        refine wpAnyH_take (i := 2) (v := .int .i64 (allE es)) rfl (by kernel_rfl) (by kernel_rfl) (by kernel_rfl) (fun _ _ _ h => h) (Or.inl ⟨by rfl, fun w _ => by rfl⟩) hHeld ?_
        show wpAnyH _ _ _ _ _ _ _ (Act.put _ (some 77) _) _
        simp only [Act.put, List.setIfInBounds_toArray, List.set_cons_zero, List.set_cons_succ]
        refine wpAnyH_take (i := 3) (v := .int .i64 (allE es)) rfl (by kernel_rfl) (by kernel_rfl) (by kernel_rfl) (fun _ _ _ h => h) (Or.inl ⟨by rfl, fun w _ => by rfl⟩) hHeld ?_
        show wpAnyH _ _ _ _ _ _ _ (Act.put _ (some 78) _) _
        simp only [Act.put, List.setIfInBounds_toArray, List.set_cons_zero, List.set_cons_succ]
        refine wpAnyH_take (i := 4) (v := .bool true) rfl (by kernel_rfl) (by kernel_rfl) (by kernel_rfl) (fun _ _ _ h => h) (Or.inl ⟨by rfl, by intro w' h; go_simp⟩) hHeld ?_
        show wpAnyH _ _ _ _ _ _ _ (Act.put _ (some 79) _) _
        simp only [Act.put, List.setIfInBounds_toArray, List.set_cons_zero, List.set_cons_succ]
        refine wpAnyH_take (i := 5) (v := .bool true) rfl (by kernel_rfl) (by kernel_rfl) (by kernel_rfl) (fun _ _ _ h => h) (Or.inl ⟨by rfl, by intro w hSw; first | rfl | go_simp⟩) hHeld ?_
        show wpAnyH _ _ _ _ _ _ _ (Act.put _ (some 80) _) _
        simp only [Act.put, List.setIfInBounds_toArray, List.set_cons_zero, List.set_cons_succ]
        refine wpAnyH_take (i := 6) (v := .bool true) rfl (by kernel_rfl) (by kernel_rfl) (by kernel_rfl) (fun _ _ _ h => h) (Or.inl ⟨by rfl, fun w _ => by rfl⟩) hHeld ?_
        show wpAnyH _ _ _ _ _ _ _ (Act.put _ (some 81) _) _
        simp only [Act.put, List.setIfInBounds_toArray, List.set_cons_zero, List.set_cons_succ]
        refine wpAnyH_take (i := 7) (v := .int .u64 (allV es)) rfl (by kernel_rfl) (by kernel_rfl) (by kernel_rfl) (fun _ _ _ h => h) (Or.inl ⟨by rfl, fun w _ => by rfl⟩) hHeld ?_
        show wpAnyH _ _ _ _ _ _ _ (Act.put _ (some 82) _) _
        simp only [Act.put, List.setIfInBounds_toArray, List.set_cons_zero, List.set_cons_succ]
        refine wpAnyH_take (i := 8) (v := .int .u64 (allV es)) rfl (by kernel_rfl) (by kernel_rfl) (by kernel_rfl) (fun _ _ _ h => h) (Or.inl ⟨by rfl, fun w _ => by rfl⟩) hHeld ?_
        show wpAnyH _ _ _ _ _ _ _ (Act.put _ (some 83) _) _
        simp only [Act.put, List.setIfInBounds_toArray, List.set_cons_zero, List.set_cons_succ]
        refine wpAnyH_take (i := 9) (v := .bool true) rfl (by kernel_rfl) (by kernel_rfl) (by kernel_rfl) (fun _ _ _ h => h) (Or.inl ⟨by rfl, by intro w' h; go_simp⟩) hHeld ?_
        show wpAnyH _ _ _ _ _ _ _ (Act.put _ (some 84) _) _
        simp only [Act.put, List.setIfInBounds_toArray, List.set_cons_zero, List.set_cons_succ]
        refine wpAnyH_take (i := 10) (v := .bool true) rfl (by kernel_rfl) (by kernel_rfl) (by kernel_rfl) (fun _ _ _ h => h) (Or.inl ⟨by rfl, by intro w hSw; first | rfl | go_simp⟩) hHeld ?_
        show wpAnyH _ _ _ _ _ _ _ (Act.put _ (some 85) _) _
        simp only [Act.put, List.setIfInBounds_toArray, List.set_cons_zero, List.set_cons_succ]
        refine wpAnyH_take (i := 11) (v := .bool true) rfl (by kernel_rfl) (by kernel_rfl) (by kernel_rfl) (fun _ _ _ h => h) (Or.inl ⟨by rfl, fun w _ => by rfl⟩) hHeld ?_
        show wpAnyH _ _ _ _ _ _ _ (Act.put _ (some 86) _) _
        simp only [Act.put, List.setIfInBounds_toArray, List.set_cons_zero, List.set_cons_succ]
        refine wpAnyH_take (i := 12) (v := .int .i64 0) rfl (by kernel_rfl) (by kernel_rfl) (by kernel_rfl) (fun _ _ _ h => h) (Or.inl ⟨by rfl, fun w _ => by rfl⟩) hHeld ?_
        show wpAnyH _ _ _ _ _ _ _ (Act.put _ (some 87) _) _
        simp only [Act.put, List.setIfInBounds_toArray, List.set_cons_zero, List.set_cons_succ]
        refine wpAnyH_take (i := 13) (v := .bool true) rfl (by kernel_rfl) (by kernel_rfl) (by kernel_rfl) (fun _ _ _ h => h) (Or.inl ⟨by rfl, by intro w' h; go_simp⟩) hHeld ?_
        show wpAnyH _ _ _ _ _ _ _ (Act.put _ (some 88) _) _
        simp only [Act.put, List.setIfInBounds_toArray, List.set_cons_zero, List.set_cons_succ]
        refine wpAnyH_take (i := 14) (v := .bool true) rfl (by kernel_rfl) (by kernel_rfl) (by kernel_rfl) (fun _ _ _ h => h) (Or.inl ⟨by rfl, by intro w hSw; first | rfl | go_simp⟩) hHeld ?_
        show wpAnyH _ _ _ _ _ _ _ (Act.put _ (some 89) _) _
        simp only [Act.put, List.setIfInBounds_toArray, List.set_cons_zero, List.set_cons_succ]
        refine wpAnyH_take (i := 15) (v := .bool true) rfl (by kernel_rfl) (by kernel_rfl) (by kernel_rfl) (fun _ _ _ h => h) (Or.inl ⟨by rfl, fun w _ => by rfl⟩) hHeld ?_
        show wpAnyH _ _ _ _ _ _ _ (Act.put _ (some 90) _) _
        simp only [Act.put, List.setIfInBounds_toArray, List.set_cons_zero, List.set_cons_succ]
        refine wpAnyH_take (i := 16) (v := .agg #[.slice sa3 sl sc3, .slice ea3 el ec3]) rfl (by kernel_rfl) (by kernel_rfl) (by kernel_rfl) (fun _ _ _ h => h) (Or.inl ⟨by rfl, by intro w' h; have k0 := Blk.cell h.1 0; simp only [List.getElem?_cons_zero] at k0; have k1 := Blk.cell h.1 1; simp only [List.getElem?_cons_zero, List.getElem?_cons_succ] at k1; go_simp⟩) hHeld ?_
        show wpAnyH _ _ _ _ _ _ _ (Act.put _ (some 91) _) _
        simp only [Act.put, List.setIfInBounds_toArray, List.set_cons_zero, List.set_cons_succ]
        refine wpAnyH_take (i := 18) (v := .agg #[.slice sa0 sl sc0, .slice ea0 el ec0]) rfl (by kernel_rfl) (by kernel_rfl) (by kernel_rfl) (fun _ _ _ h => h) (Or.inl ⟨by rfl, by intro w' h; have k0 := Blk.cell h.2 0; simp only [List.getElem?_cons_zero] at k0; have k1 := Blk.cell h.2 1; simp only [List.getElem?_cons_zero, List.getElem?_cons_succ] at k1; go_simp⟩) hHeld ?_
        show wpAnyH _ _ _ _ _ _ _ (Act.put _ (some 93) _) _
        simp only [Act.put, List.setIfInBounds_toArray, List.set_cons_zero, List.set_cons_succ]
        refine wpAnyH_ready (rs := [17]) (by kernel_rfl) (by simp) ?_
        refine AllReadyH.cons rfl (fun K hK => ?_) AllReadyH.nil
        refine step_call rfl 32 #[.tmp 91] #[31] rfl #[.agg #[.slice sa3 sl sc3, .slice ea3 el ec3]] (by simp [Act.eval]) (by go_simp) (wfrom_any sa3 sl sc3 ea3 el ec3 sp es X1 S3X1.out E3X1.out HSL.out HEL.out hs20 he30) ?_
        rintro e X2 ⟨sa4, sc4, ea4, ec4, rfl, hS, hE, hB⟩
        have BX2 : Hid (Below w.heap.size w X2) := Lib.hid (BX1.out.trans (hB.mono BX1.out.size))
        have S0X2 : Hid (SpotRow X2 sa0 sp) := Lib.hid (S0X1.out.below hB)
        have E0X2 : Hid (EdgeRow X2 ea0 es) := Lib.hid (E0X1.out.below hB)
        have PX2 : Hid (Blk X2 gp 25 [.slice sa0 sl sc0, .slice ea0 el ec0]) := Lib.hid (PX1.out.below hB PX1.out.lt)
        have TX2 : Hid (Blk X2 gz 31 [.slice sa3 sl sc3, .slice ea3 el ec3]) := Lib.hid (TX1.out.below hB TX1.out.lt)
        have S3X2 : Hid (SpotRow X2 sa3 sp) := Lib.hid (S3X1.out.below hB)
        have E3X2 : Hid (EdgeRow X2 ea3 es) := Lib.hid (E3X1.out.below hB)
        have S4X2 : Hid (SpotRow X2 sa4 sp) := Lib.hid (hS)
        have E4X2 : Hid (EdgeRow X2 ea4 es) := Lib.hid (hE)
        clear BX1 S0X1 E0X1 PX1 TX1 S3X1 E3X1 hB hS hE
        refine ⟨_, rfl, hK.out _ _ (⟨TX2.out, PX2.out⟩) (fun hHeld => ?_)⟩
        clear hK K
        show wpAnyH _ _ _ _ _ _ _ (Act.put _ (some 92) _) _
        simp only [Act.put, List.setIfInBounds_toArray, List.set_cons_zero, List.set_cons_succ]
        refine wpAnyH_ready (rs := [19]) (by kernel_rfl) (by simp) ?_
        refine AllReadyH.cons rfl (fun K hK => ?_) AllReadyH.nil
        refine step_call rfl 31 #[.tmp 92, .tmp 93] #[25, 25] rfl #[.agg #[.slice sa4 sl sc4, .slice ea4 el ec4], .agg #[.slice sa0 sl sc0, .slice ea0 el ec0]] (by simp [Act.eval]) (by go_simp) (wsame_any sa4 sl sc4 ea4 el ec4 sa0 sc0 ea0 ec0 sp es X2 S4X2.out E4X2.out S0X2.out E0X2.out HSL.out HEL.out hs20 he30) ?_
        rintro e X3 ⟨rfl, hB⟩
        have BX3 : Hid (Below w.heap.size w X3) := Lib.hid (BX2.out.trans (hB.mono BX2.out.size))
        have S0X3 : Hid (SpotRow X3 sa0 sp) := Lib.hid (S0X2.out.below hB)
        have E0X3 : Hid (EdgeRow X3 ea0 es) := Lib.hid (E0X2.out.below hB)
        have PX3 : Hid (Blk X3 gp 25 [.slice sa0 sl sc0, .slice ea0 el ec0]) := Lib.hid (PX2.out.below hB PX2.out.lt)
        have TX3 : Hid (Blk X3 gz 31 [.slice sa3 sl sc3, .slice ea3 el ec3]) := Lib.hid (TX2.out.below hB TX2.out.lt)
        have S3X3 : Hid (SpotRow X3 sa3 sp) := Lib.hid (S3X2.out.below hB)
        have E3X3 : Hid (EdgeRow X3 ea3 es) := Lib.hid (E3X2.out.below hB)
        have S4X3 : Hid (SpotRow X3 sa4 sp) := Lib.hid (S4X2.out.below hB)
        have E4X3 : Hid (EdgeRow X3 ea4 es) := Lib.hid (E4X2.out.below hB)
        clear BX2 S0X2 E0X2 PX2 TX2 S3X2 E3X2 S4X2 E4X2 hB
        refine ⟨_, rfl, hK.out _ _ (⟨TX3.out, PX3.out⟩) (fun hHeld => ?_)⟩
        clear hK K
        show wpAnyH _ _ _ _ _ _ _ (Act.put _ (some 94) _) _
        simp only [Act.put, List.setIfInBounds_toArray, List.set_cons_zero, List.set_cons_succ]
        refine wpAnyH_take (i := 20) (v := .bool true) rfl (by kernel_rfl) (by kernel_rfl) (by kernel_rfl) (fun _ _ _ h => h) (Or.inl ⟨by rfl, by intro w hSw; first | rfl | go_simp⟩) hHeld ?_
        show wpAnyH _ _ _ _ _ _ _ (Act.put _ (some 95) _) _
        simp only [Act.put, List.setIfInBounds_toArray, List.set_cons_zero, List.set_cons_succ]
        refine wpAnyH_take (i := 21) (v := .bool true) rfl (by kernel_rfl) (by kernel_rfl) (by kernel_rfl) (fun _ _ _ h => h) (Or.inl ⟨by rfl, fun w _ => by rfl⟩) hHeld ?_
        show wpAnyH _ _ _ _ _ _ _ (Act.put _ (some 8) _) _
        simp only [Act.put, List.setIfInBounds_toArray, List.set_cons_zero, List.set_cons_succ]
        refine wpAnyH_done (by kernel_rfl) ?_ _
        go_wp2
        go_ret
        exact ⟨rfl, BX3.out⟩
    · rw [hsd]
      have HS := Lib.hid hsd
      clear hsd
      go_wp2_with fail
      have hz0 : Y9.heap.size ≤ Y9.heap.size := Nat.le_refl _
      have Zw : Hid (Below Y9.heap.size Y9 Y9) := Lib.hid (Below.refl _ _)
      have hn : p = endE (es.getD k ed0) (1 - sideE (es.getD k ed0) node) := by rw [HX.out, ← HX.out, HS.out, HX.out]; simp [endE]
      have HNN := Lib.hid hn
      clear hn
      have e0 : Y9.cell? ⟨be, oe + k * 8, none⟩ = some (.int .i64 p) := CY9.out.2 0 _ (by rw [HX.out]; rfl)
      have e1 : Y9.cell? ⟨be, oe + k * 8 + 1, none⟩ = some (.int .i64 q) := CY9.out.2 1 _ (by rw [HX.out]; rfl)
      have HE0 := Lib.hid e0
      have HE1 := Lib.hid e1
      clear e0 e1
      have hBz : Below Y9.heap.size Y9 Y9.drew := below_drewN (Below.refl _ _) 1
      have ZX0 : Hid (Below Y9.heap.size Y9 Y9.drew) := Lib.hid (Zw.out.trans (hBz.mono Zw.out.size))
      clear hBz
      refine wp_region_held_drew (S := fun w' => Below Y9.heap.size Y9 w') (by kernel_rfl) (ZX0.out) (fun hHeld => ?_)
      generalize Y9.drew = X0 at hHeld ZX0 ⊢
      refine wpAnyH_take (i := 0) (v := .agg #[.slice sa2 sl sc2, .slice ea2 el ec2]) rfl (by kernel_rfl) (by kernel_rfl) (by kernel_rfl) (fun _ _ _ h => h) (Or.inl ⟨by rfl, by intro w' h; have k0 := (h.cell (p := ⟨gr, 0, none⟩) RY9.out.lt).trans (Blk.cell RY9.out 0); simp only [List.getElem?_cons_zero] at k0; have k1 := (h.cell (p := ⟨gr, 1, none⟩) RY9.out.lt).trans (Blk.cell RY9.out 1); simp only [List.getElem?_cons_zero, List.getElem?_cons_succ] at k1; go_simp⟩) hHeld ?_
      show wpAnyH _ _ _ _ _ _ _ (Act.put _ (some 60) _) _
      simp only [Act.put, List.setIfInBounds_toArray, List.set_cons_zero, List.set_cons_succ]
      refine wpAnyH_take (i := 1) (v := .int .i64 (k : Int)) rfl (by kernel_rfl) (by kernel_rfl) (by kernel_rfl) (fun _ _ _ h => h) (Or.inl ⟨by rfl, fun w _ => by rfl⟩) hHeld ?_
      show wpAnyH _ _ _ _ _ _ _ (Act.put _ (some 61) _) _
      simp only [Act.put, List.setIfInBounds_toArray, List.set_cons_zero, List.set_cons_succ]
      refine wpAnyH_take (i := 2) (v := .pointer (some ⟨gq, 1, none⟩)) rfl (by kernel_rfl) (by kernel_rfl) (by kernel_rfl) (fun _ _ _ h => h) (Or.inl ⟨by rfl, by intro w' h; go_simp⟩) hHeld ?_
      show wpAnyH _ _ _ _ _ _ _ (Act.put _ (some 62) _) _
      simp only [Act.put, List.setIfInBounds_toArray, List.set_cons_zero, List.set_cons_succ]
      refine wpAnyH_take (i := 3) (v := .slice (some ⟨be, oe, none⟩) el ec1) rfl (by kernel_rfl) (by kernel_rfl) (by kernel_rfl) (fun _ _ _ h => h) (Or.inl ⟨by rfl, by intro w' h; have k1 := (h.cell (p := ⟨gq, 1, none⟩) QY9.out.lt).trans (Blk.cell QY9.out 1); simp only [List.getElem?_cons_zero, List.getElem?_cons_succ] at k1; go_simp⟩) hHeld ?_
      show wpAnyH _ _ _ _ _ _ _ (Act.put _ (some 63) _) _
      simp only [Act.put, List.setIfInBounds_toArray, List.set_cons_zero, List.set_cons_succ]
      refine wpAnyH_take (i := 4) (v := .int .i64 (k : Int)) rfl (by kernel_rfl) (by kernel_rfl) (by kernel_rfl) (fun _ _ _ h => h) (Or.inl ⟨by rfl, fun w _ => by rfl⟩) hHeld ?_
      show wpAnyH _ _ _ _ _ _ _ (Act.put _ (some 64) _) _
      simp only [Act.put, List.setIfInBounds_toArray, List.set_cons_zero, List.set_cons_succ]
      refine wpAnyH_take (i := 5) (v := .int .i64 1) rfl (by kernel_rfl) (by kernel_rfl) (by kernel_rfl) (fun _ _ _ h => h) (Or.inl ⟨by rfl, fun w _ => by rfl⟩) hHeld ?_
      show wpAnyH _ _ _ _ _ _ _ (Act.put _ (some 65) _) _
      simp only [Act.put, List.setIfInBounds_toArray, List.set_cons_zero, List.set_cons_succ]
      refine wpAnyH_take (i := 6) (v := .int .i64 0) rfl (by kernel_rfl) (by kernel_rfl) (by kernel_rfl) (fun _ _ _ h => h) (Or.inl ⟨by rfl, by intro w' h; go_simp; (first | rfl | decide)⟩) hHeld ?_
      show wpAnyH _ _ _ _ _ _ _ (Act.put _ (some 66) _) _
      simp only [Act.put, List.setIfInBounds_toArray, List.set_cons_zero, List.set_cons_succ]
      refine wpAnyH_take (i := 7) (v := .pointer (some ⟨be, oe + k * 8, none⟩)) rfl (by kernel_rfl) (by kernel_rfl) (by kernel_rfl) (fun _ _ _ h => h) (Or.inl ⟨by rfl, by intro w' h; go_simp⟩) hHeld ?_
      show wpAnyH _ _ _ _ _ _ _ (Act.put _ (some 67) _) _
      simp only [Act.put, List.setIfInBounds_toArray, List.set_cons_zero, List.set_cons_succ]
      refine wpAnyH_take (i := 8) (v := .pointer (some ⟨be, oe + k * 8, none⟩)) rfl (by kernel_rfl) (by kernel_rfl) (by kernel_rfl) (fun _ _ _ h => h) (Or.inl ⟨by rfl, by intro w' h; go_simp⟩) hHeld ?_
      show wpAnyH _ _ _ _ _ _ _ (Act.put _ (some 68) _) _
      simp only [Act.put, List.setIfInBounds_toArray, List.set_cons_zero, List.set_cons_succ]
      refine wpAnyH_take (i := 9) (v := .pointer (some ⟨be, oe + k * 8, none⟩)) rfl (by kernel_rfl) (by kernel_rfl) (by kernel_rfl) (fun _ _ _ h => h) (Or.inl ⟨by rfl, by intro w' h; go_simp⟩) hHeld ?_
      show wpAnyH _ _ _ _ _ _ _ (Act.put _ (some 69) _) _
      simp only [Act.put, List.setIfInBounds_toArray, List.set_cons_zero, List.set_cons_succ]
      refine wpAnyH_take (i := 10) (v := .int .i64 p) rfl (by kernel_rfl) (by kernel_rfl) (by kernel_rfl) (fun _ _ _ h => h) (Or.inl ⟨by rfl, by intro w' h; have k0 := (h.cell (p := ⟨be, oe + k * 8, none⟩) CY9.out.1).trans HE0.out; go_simp⟩) hHeld ?_
      show wpAnyH _ _ _ _ _ _ _ (Act.put _ (some 70) _) _
      simp only [Act.put, List.setIfInBounds_toArray, List.set_cons_zero, List.set_cons_succ]
      refine wpAnyH_take (i := 11) (v := .int .u64 amt) rfl (by kernel_rfl) (by kernel_rfl) (by kernel_rfl) (fun _ _ _ h => h) (Or.inl ⟨by rfl, fun w _ => by rfl⟩) hHeld ?_
      show wpAnyH _ _ _ _ _ _ _ (Act.put _ (some 71) _) _
      simp only [Act.put, List.setIfInBounds_toArray, List.set_cons_zero, List.set_cons_succ]
      refine wpAnyH_ready (rs := [12, 16]) (by kernel_rfl) (by simp) ?_
      refine AllReadyH.cons rfl (fun K hK => ?_) (AllReadyH.cons rfl (fun K hK => ?_) AllReadyH.nil)
      · refine step_call rfl 27 #[.tmp 60, .tmp 61, .tmp 70, .tmp 71] #[31, 3, 3, 40] rfl #[.agg #[.slice sa2 sl sc2, .slice ea2 el ec2], .int .i64 (k : Int), .int .i64 p, .int .u64 amt] (by simp [Act.eval]) (by go_simp) (back_any sa2 sl sc2 ea2 el ec2 sp es k node amt p X0 (HSL.out ▸ H0.out) HOK.out HAM.out HSL.out HEL.out (S2Y9.out.below ZX0.out) (E2Y9.out.below ZX0.out) HN3.out HN4.out hs20 he30 HNN.out) ?_
        rintro e X1 ⟨sa3, sc3, ea3, ec3, rfl, hS, hE, hB⟩
        have ZX1 : Hid (Below Y9.heap.size Y9 X1) := Lib.hid (ZX0.out.trans (hB.mono ZX0.out.size))
        have S3X1 : Hid (SpotRow X1 sa3 sp) := Lib.hid (hS)
        have E3X1 : Hid (EdgeRow X1 ea3 es) := Lib.hid (hE)
        clear ZX0 hB hS hE
        refine ⟨_, rfl, hK.out _ _ (ZX1.out) (fun hHeld => ?_)⟩
        clear hK K
        show wpAnyH _ _ _ _ _ _ _ (Act.put _ (some 72) _) _
        simp only [Act.put, List.setIfInBounds_toArray, List.set_cons_zero, List.set_cons_succ]
        refine wpAnyH_take (i := 13) (v := .tuple #[.agg #[.slice sa3 sl sc3, .slice ea3 el ec3], .int .i64 0]) rfl (by kernel_rfl) (by kernel_rfl) (by kernel_rfl) (fun _ _ _ h => h) (Or.inl ⟨by rfl, fun w _ => by rfl⟩) hHeld ?_
        show wpAnyH _ _ _ _ _ _ _ (Act.put _ (some 59) _) _
        simp only [Act.put, List.setIfInBounds_toArray, List.set_cons_zero, List.set_cons_succ]
        refine wpAnyH_take (i := 14) (v := .agg #[.slice sa3 sl sc3, .slice ea3 el ec3]) rfl (by kernel_rfl) (by kernel_rfl) (by kernel_rfl) (fun _ _ _ h => h) (Or.inl ⟨by rfl, by intro w' h; go_simp⟩) hHeld ?_
        show wpAnyH _ _ _ _ _ _ _ (Act.put _ (some 73) _) _
        simp only [Act.put, List.setIfInBounds_toArray, List.set_cons_zero, List.set_cons_succ]
        refine wpAnyH_take (i := 15) (v := .int .i64 0) rfl (by kernel_rfl) (by kernel_rfl) (by kernel_rfl) (fun _ _ _ h => h) (Or.inl ⟨by rfl, by intro w' h; go_simp⟩) hHeld ?_
        show wpAnyH _ _ _ _ _ _ _ (Act.put _ (some 74) _) _
        simp only [Act.put, List.setIfInBounds_toArray, List.set_cons_zero, List.set_cons_succ]
        refine wpAnyH_ready (rs := [16]) (by kernel_rfl) (by simp) ?_
        refine AllReadyH.cons rfl (fun K hK => ?_) AllReadyH.nil
        refine step_web rfl rfl ?_
        intro X2 gz hT hg hB
        have hgz : Y9.heap.size ≤ gz := Nat.le_trans ZX1.out.size hg
        have ZX2 : Hid (Below Y9.heap.size Y9 X2) := Lib.hid (ZX1.out.trans (hB.mono ZX1.out.size))
        have S3X2 : Hid (SpotRow X2 sa3 sp) := Lib.hid (S3X1.out.below hB)
        have E3X2 : Hid (EdgeRow X2 ea3 es) := Lib.hid (E3X1.out.below hB)
        have TX2 : Hid (Blk X2 gz 31 [.slice none 0 0, .slice none 0 0]) := Lib.hid (hT)
        clear ZX1 S3X1 E3X1 hB hT hg
        refine hK.out _ _ (ZX2.out) (fun hHeld => ?_)
        clear hK K
        show wpAnyH _ _ _ _ _ _ _ (Act.put _ (some 17) _) _
        simp only [Act.put, List.setIfInBounds_toArray, List.set_cons_zero, List.set_cons_succ]
        refine wpAnyH_ready (rs := [17]) (by kernel_rfl) (by simp) ?_
        refine AllReadyH.cons rfl (fun K hK => ?_) AllReadyH.nil
        refine step_keepW rfl (.tmp 17) (.tmp 73) rfl gz _ _ _ _ _ _ _ _ _ _ _ _ rfl rfl TX2.out ?_
        intro X3 hT hS hE hU
        have TX3 : Hid (Blk X3 gz 31 [.slice sa3 sl sc3, .slice ea3 el ec3]) := Lib.hid (hT)
        have S3X3 : Hid (SpotRow X3 sa3 sp) := Lib.hid (hS _ S3X2.out)
        have E3X3 : Hid (EdgeRow X3 ea3 es) := Lib.hid (hE _ E3X2.out)
        have ZX3 : Hid (Below Y9.heap.size Y9 X3) := Lib.hid (hU _ _ hgz ZX2.out)
        clear  hT hS hE hU
        refine hK.out _ _ (ZX3.out) (fun hHeld => ?_)
        clear hK K
        show wpAnyH _ _ _ _ _ _ _ (Act.put _ none _) _
        simp only [Act.put]
        refine wpAnyH_take (i := 18) (v := .int .i64 0) rfl (by kernel_rfl) (by kernel_rfl) (by kernel_rfl) (fun _ _ _ h => h) (Or.inl ⟨by rfl, fun w _ => by rfl⟩) hHeld ?_
        show wpAnyH _ _ _ _ _ _ _ (Act.put _ (some 18) _) _
        simp only [Act.put, List.setIfInBounds_toArray, List.set_cons_zero, List.set_cons_succ]
        refine wpAnyH_done (by kernel_rfl) ?_ _
        clear hHeld
        have BX3 : Hid (Below w.heap.size w X3) := Lib.hid (BY9.out.trans (ZX3.out.mono BY9.out.size))
        have S0X3 : Hid (SpotRow X3 sa0 sp) := Lib.hid (S0Y9.out.below ZX3.out)
        have E0X3 : Hid (EdgeRow X3 ea0 es) := Lib.hid (E0Y9.out.below ZX3.out)
        have PX3 : Hid (Blk X3 gp 25 [.slice sa0 sl sc0, .slice ea0 el ec0]) := Lib.hid (PY9.out.below ZX3.out PY9.out.lt)
        go_wp2_with fail
        have hBz : Below X3.heap.size X3 X3.drew := below_drewN (Below.refl _ _) 1
        have BV0 : Hid (Below w.heap.size w X3.drew) := Lib.hid (BX3.out.trans (hBz.mono BX3.out.size))
        have S0V0 : Hid (SpotRow X3.drew sa0 sp) := Lib.hid (S0X3.out.below hBz)
        have E0V0 : Hid (EdgeRow X3.drew ea0 es) := Lib.hid (E0X3.out.below hBz)
        have PV0 : Hid (Blk X3.drew gp 25 [.slice sa0 sl sc0, .slice ea0 el ec0]) := Lib.hid (PX3.out.below hBz PX3.out.lt)
        have TV0 : Hid (Blk X3.drew gz 31 [.slice sa3 sl sc3, .slice ea3 el ec3]) := Lib.hid (TX3.out.below hBz TX3.out.lt)
        have S3V0 : Hid (SpotRow X3.drew sa3 sp) := Lib.hid (S3X3.out.below hBz)
        have E3V0 : Hid (EdgeRow X3.drew ea3 es) := Lib.hid (E3X3.out.below hBz)
        clear hBz
        refine wp_region_held_drew (S := fun w' => Blk w' gz 31 [.slice sa3 sl sc3, .slice ea3 el ec3] ∧ Blk w' gp 25 [.slice sa0 sl sc0, .slice ea0 el ec0]) (by kernel_rfl) (⟨TV0.out, PV0.out⟩) (fun hHeld => ?_)
        generalize X3.drew = V0 at hHeld BV0 S0V0 E0V0 PV0 TV0 S3V0 E3V0 ⊢
        refine wpAnyH_ready (rs := [0]) (by kernel_rfl) (by simp) ?_
        refine AllReadyH.cons rfl (fun K hK => ?_) AllReadyH.nil
        refine step_call rfl 14 #[] #[] rfl #[] (by simp) (by go_simp) (wawake_any V0) ?_
        rintro e X1 ⟨rfl, hB⟩
        have BX1 : Hid (Below w.heap.size w X1) := Lib.hid (BV0.out.trans (hB.mono BV0.out.size))
        have S0X1 : Hid (SpotRow X1 sa0 sp) := Lib.hid (S0V0.out.below hB)
        have E0X1 : Hid (EdgeRow X1 ea0 es) := Lib.hid (E0V0.out.below hB)
        have PX1 : Hid (Blk X1 gp 25 [.slice sa0 sl sc0, .slice ea0 el ec0]) := Lib.hid (PV0.out.below hB PV0.out.lt)
        have TX1 : Hid (Blk X1 gz 31 [.slice sa3 sl sc3, .slice ea3 el ec3]) := Lib.hid (TV0.out.below hB TV0.out.lt)
        have S3X1 : Hid (SpotRow X1 sa3 sp) := Lib.hid (S3V0.out.below hB)
        have E3X1 : Hid (EdgeRow X1 ea3 es) := Lib.hid (E3V0.out.below hB)
        clear BV0 S0V0 E0V0 PV0 TV0 S3V0 E3V0 hB
        refine ⟨_, rfl, hK.out _ _ (⟨TX1.out, PX1.out⟩) (fun hHeld => ?_)⟩
        clear hK K
        show wpAnyH _ _ _ _ _ _ _ (Act.put _ (some 75) _) _
        simp only [Act.put, List.setIfInBounds_toArray, List.set_cons_zero, List.set_cons_succ]
        refine wpAnyH_take (i := 1) (v := .bool true) rfl (by kernel_rfl) (by kernel_rfl) (by kernel_rfl) (fun _ _ _ h => h) (Or.inl ⟨by rfl, fun w _ => by rfl⟩) hHeld ?_
        show wpAnyH _ _ _ _ _ _ _ (Act.put _ (some 76) _) _
        simp only [Act.put, List.setIfInBounds_toArray, List.set_cons_zero, List.set_cons_succ]
        refine wpAnyH_take (i := 2) (v := .int .i64 (allE es)) rfl (by kernel_rfl) (by kernel_rfl) (by kernel_rfl) (fun _ _ _ h => h) (Or.inl ⟨by rfl, fun w _ => by rfl⟩) hHeld ?_
        show wpAnyH _ _ _ _ _ _ _ (Act.put _ (some 77) _) _
        simp only [Act.put, List.setIfInBounds_toArray, List.set_cons_zero, List.set_cons_succ]
        refine wpAnyH_take (i := 3) (v := .int .i64 (allE es)) rfl (by kernel_rfl) (by kernel_rfl) (by kernel_rfl) (fun _ _ _ h => h) (Or.inl ⟨by rfl, fun w _ => by rfl⟩) hHeld ?_
        show wpAnyH _ _ _ _ _ _ _ (Act.put _ (some 78) _) _
        simp only [Act.put, List.setIfInBounds_toArray, List.set_cons_zero, List.set_cons_succ]
        refine wpAnyH_take (i := 4) (v := .bool true) rfl (by kernel_rfl) (by kernel_rfl) (by kernel_rfl) (fun _ _ _ h => h) (Or.inl ⟨by rfl, by intro w' h; go_simp⟩) hHeld ?_
        show wpAnyH _ _ _ _ _ _ _ (Act.put _ (some 79) _) _
        simp only [Act.put, List.setIfInBounds_toArray, List.set_cons_zero, List.set_cons_succ]
        refine wpAnyH_take (i := 5) (v := .bool true) rfl (by kernel_rfl) (by kernel_rfl) (by kernel_rfl) (fun _ _ _ h => h) (Or.inl ⟨by rfl, by intro w hSw; first | rfl | go_simp⟩) hHeld ?_
        show wpAnyH _ _ _ _ _ _ _ (Act.put _ (some 80) _) _
        simp only [Act.put, List.setIfInBounds_toArray, List.set_cons_zero, List.set_cons_succ]
        refine wpAnyH_take (i := 6) (v := .bool true) rfl (by kernel_rfl) (by kernel_rfl) (by kernel_rfl) (fun _ _ _ h => h) (Or.inl ⟨by rfl, fun w _ => by rfl⟩) hHeld ?_
        show wpAnyH _ _ _ _ _ _ _ (Act.put _ (some 81) _) _
        simp only [Act.put, List.setIfInBounds_toArray, List.set_cons_zero, List.set_cons_succ]
        refine wpAnyH_take (i := 7) (v := .int .u64 (allV es)) rfl (by kernel_rfl) (by kernel_rfl) (by kernel_rfl) (fun _ _ _ h => h) (Or.inl ⟨by rfl, fun w _ => by rfl⟩) hHeld ?_
        show wpAnyH _ _ _ _ _ _ _ (Act.put _ (some 82) _) _
        simp only [Act.put, List.setIfInBounds_toArray, List.set_cons_zero, List.set_cons_succ]
        refine wpAnyH_take (i := 8) (v := .int .u64 (allV es)) rfl (by kernel_rfl) (by kernel_rfl) (by kernel_rfl) (fun _ _ _ h => h) (Or.inl ⟨by rfl, fun w _ => by rfl⟩) hHeld ?_
        show wpAnyH _ _ _ _ _ _ _ (Act.put _ (some 83) _) _
        simp only [Act.put, List.setIfInBounds_toArray, List.set_cons_zero, List.set_cons_succ]
        refine wpAnyH_take (i := 9) (v := .bool true) rfl (by kernel_rfl) (by kernel_rfl) (by kernel_rfl) (fun _ _ _ h => h) (Or.inl ⟨by rfl, by intro w' h; go_simp⟩) hHeld ?_
        show wpAnyH _ _ _ _ _ _ _ (Act.put _ (some 84) _) _
        simp only [Act.put, List.setIfInBounds_toArray, List.set_cons_zero, List.set_cons_succ]
        refine wpAnyH_take (i := 10) (v := .bool true) rfl (by kernel_rfl) (by kernel_rfl) (by kernel_rfl) (fun _ _ _ h => h) (Or.inl ⟨by rfl, by intro w hSw; first | rfl | go_simp⟩) hHeld ?_
        show wpAnyH _ _ _ _ _ _ _ (Act.put _ (some 85) _) _
        simp only [Act.put, List.setIfInBounds_toArray, List.set_cons_zero, List.set_cons_succ]
        refine wpAnyH_take (i := 11) (v := .bool true) rfl (by kernel_rfl) (by kernel_rfl) (by kernel_rfl) (fun _ _ _ h => h) (Or.inl ⟨by rfl, fun w _ => by rfl⟩) hHeld ?_
        show wpAnyH _ _ _ _ _ _ _ (Act.put _ (some 86) _) _
        simp only [Act.put, List.setIfInBounds_toArray, List.set_cons_zero, List.set_cons_succ]
        refine wpAnyH_take (i := 12) (v := .int .i64 0) rfl (by kernel_rfl) (by kernel_rfl) (by kernel_rfl) (fun _ _ _ h => h) (Or.inl ⟨by rfl, fun w _ => by rfl⟩) hHeld ?_
        show wpAnyH _ _ _ _ _ _ _ (Act.put _ (some 87) _) _
        simp only [Act.put, List.setIfInBounds_toArray, List.set_cons_zero, List.set_cons_succ]
        refine wpAnyH_take (i := 13) (v := .bool true) rfl (by kernel_rfl) (by kernel_rfl) (by kernel_rfl) (fun _ _ _ h => h) (Or.inl ⟨by rfl, by intro w' h; go_simp⟩) hHeld ?_
        show wpAnyH _ _ _ _ _ _ _ (Act.put _ (some 88) _) _
        simp only [Act.put, List.setIfInBounds_toArray, List.set_cons_zero, List.set_cons_succ]
        refine wpAnyH_take (i := 14) (v := .bool true) rfl (by kernel_rfl) (by kernel_rfl) (by kernel_rfl) (fun _ _ _ h => h) (Or.inl ⟨by rfl, by intro w hSw; first | rfl | go_simp⟩) hHeld ?_
        show wpAnyH _ _ _ _ _ _ _ (Act.put _ (some 89) _) _
        simp only [Act.put, List.setIfInBounds_toArray, List.set_cons_zero, List.set_cons_succ]
        refine wpAnyH_take (i := 15) (v := .bool true) rfl (by kernel_rfl) (by kernel_rfl) (by kernel_rfl) (fun _ _ _ h => h) (Or.inl ⟨by rfl, fun w _ => by rfl⟩) hHeld ?_
        show wpAnyH _ _ _ _ _ _ _ (Act.put _ (some 90) _) _
        simp only [Act.put, List.setIfInBounds_toArray, List.set_cons_zero, List.set_cons_succ]
        refine wpAnyH_take (i := 16) (v := .agg #[.slice sa3 sl sc3, .slice ea3 el ec3]) rfl (by kernel_rfl) (by kernel_rfl) (by kernel_rfl) (fun _ _ _ h => h) (Or.inl ⟨by rfl, by intro w' h; have k0 := Blk.cell h.1 0; simp only [List.getElem?_cons_zero] at k0; have k1 := Blk.cell h.1 1; simp only [List.getElem?_cons_zero, List.getElem?_cons_succ] at k1; go_simp⟩) hHeld ?_
        show wpAnyH _ _ _ _ _ _ _ (Act.put _ (some 91) _) _
        simp only [Act.put, List.setIfInBounds_toArray, List.set_cons_zero, List.set_cons_succ]
        refine wpAnyH_take (i := 18) (v := .agg #[.slice sa0 sl sc0, .slice ea0 el ec0]) rfl (by kernel_rfl) (by kernel_rfl) (by kernel_rfl) (fun _ _ _ h => h) (Or.inl ⟨by rfl, by intro w' h; have k0 := Blk.cell h.2 0; simp only [List.getElem?_cons_zero] at k0; have k1 := Blk.cell h.2 1; simp only [List.getElem?_cons_zero, List.getElem?_cons_succ] at k1; go_simp⟩) hHeld ?_
        show wpAnyH _ _ _ _ _ _ _ (Act.put _ (some 93) _) _
        simp only [Act.put, List.setIfInBounds_toArray, List.set_cons_zero, List.set_cons_succ]
        refine wpAnyH_ready (rs := [17]) (by kernel_rfl) (by simp) ?_
        refine AllReadyH.cons rfl (fun K hK => ?_) AllReadyH.nil
        refine step_call rfl 32 #[.tmp 91] #[31] rfl #[.agg #[.slice sa3 sl sc3, .slice ea3 el ec3]] (by simp [Act.eval]) (by go_simp) (wfrom_any sa3 sl sc3 ea3 el ec3 sp es X1 S3X1.out E3X1.out HSL.out HEL.out hs20 he30) ?_
        rintro e X2 ⟨sa4, sc4, ea4, ec4, rfl, hS, hE, hB⟩
        have BX2 : Hid (Below w.heap.size w X2) := Lib.hid (BX1.out.trans (hB.mono BX1.out.size))
        have S0X2 : Hid (SpotRow X2 sa0 sp) := Lib.hid (S0X1.out.below hB)
        have E0X2 : Hid (EdgeRow X2 ea0 es) := Lib.hid (E0X1.out.below hB)
        have PX2 : Hid (Blk X2 gp 25 [.slice sa0 sl sc0, .slice ea0 el ec0]) := Lib.hid (PX1.out.below hB PX1.out.lt)
        have TX2 : Hid (Blk X2 gz 31 [.slice sa3 sl sc3, .slice ea3 el ec3]) := Lib.hid (TX1.out.below hB TX1.out.lt)
        have S3X2 : Hid (SpotRow X2 sa3 sp) := Lib.hid (S3X1.out.below hB)
        have E3X2 : Hid (EdgeRow X2 ea3 es) := Lib.hid (E3X1.out.below hB)
        have S4X2 : Hid (SpotRow X2 sa4 sp) := Lib.hid (hS)
        have E4X2 : Hid (EdgeRow X2 ea4 es) := Lib.hid (hE)
        clear BX1 S0X1 E0X1 PX1 TX1 S3X1 E3X1 hB hS hE
        refine ⟨_, rfl, hK.out _ _ (⟨TX2.out, PX2.out⟩) (fun hHeld => ?_)⟩
        clear hK K
        show wpAnyH _ _ _ _ _ _ _ (Act.put _ (some 92) _) _
        simp only [Act.put, List.setIfInBounds_toArray, List.set_cons_zero, List.set_cons_succ]
        refine wpAnyH_ready (rs := [19]) (by kernel_rfl) (by simp) ?_
        refine AllReadyH.cons rfl (fun K hK => ?_) AllReadyH.nil
        refine step_call rfl 31 #[.tmp 92, .tmp 93] #[25, 25] rfl #[.agg #[.slice sa4 sl sc4, .slice ea4 el ec4], .agg #[.slice sa0 sl sc0, .slice ea0 el ec0]] (by simp [Act.eval]) (by go_simp) (wsame_any sa4 sl sc4 ea4 el ec4 sa0 sc0 ea0 ec0 sp es X2 S4X2.out E4X2.out S0X2.out E0X2.out HSL.out HEL.out hs20 he30) ?_
        rintro e X3 ⟨rfl, hB⟩
        have BX3 : Hid (Below w.heap.size w X3) := Lib.hid (BX2.out.trans (hB.mono BX2.out.size))
        have S0X3 : Hid (SpotRow X3 sa0 sp) := Lib.hid (S0X2.out.below hB)
        have E0X3 : Hid (EdgeRow X3 ea0 es) := Lib.hid (E0X2.out.below hB)
        have PX3 : Hid (Blk X3 gp 25 [.slice sa0 sl sc0, .slice ea0 el ec0]) := Lib.hid (PX2.out.below hB PX2.out.lt)
        have TX3 : Hid (Blk X3 gz 31 [.slice sa3 sl sc3, .slice ea3 el ec3]) := Lib.hid (TX2.out.below hB TX2.out.lt)
        have S3X3 : Hid (SpotRow X3 sa3 sp) := Lib.hid (S3X2.out.below hB)
        have E3X3 : Hid (EdgeRow X3 ea3 es) := Lib.hid (E3X2.out.below hB)
        have S4X3 : Hid (SpotRow X3 sa4 sp) := Lib.hid (S4X2.out.below hB)
        have E4X3 : Hid (EdgeRow X3 ea4 es) := Lib.hid (E4X2.out.below hB)
        clear BX2 S0X2 E0X2 PX2 TX2 S3X2 E3X2 S4X2 E4X2 hB
        refine ⟨_, rfl, hK.out _ _ (⟨TX3.out, PX3.out⟩) (fun hHeld => ?_)⟩
        clear hK K
        show wpAnyH _ _ _ _ _ _ _ (Act.put _ (some 94) _) _
        simp only [Act.put, List.setIfInBounds_toArray, List.set_cons_zero, List.set_cons_succ]
        refine wpAnyH_take (i := 20) (v := .bool true) rfl (by kernel_rfl) (by kernel_rfl) (by kernel_rfl) (fun _ _ _ h => h) (Or.inl ⟨by rfl, by intro w hSw; first | rfl | go_simp⟩) hHeld ?_
        show wpAnyH _ _ _ _ _ _ _ (Act.put _ (some 95) _) _
        simp only [Act.put, List.setIfInBounds_toArray, List.set_cons_zero, List.set_cons_succ]
        refine wpAnyH_take (i := 21) (v := .bool true) rfl (by kernel_rfl) (by kernel_rfl) (by kernel_rfl) (fun _ _ _ h => h) (Or.inl ⟨by rfl, fun w _ => by rfl⟩) hHeld ?_
        show wpAnyH _ _ _ _ _ _ _ (Act.put _ (some 8) _) _
        simp only [Act.put, List.setIfInBounds_toArray, List.set_cons_zero, List.set_cons_succ]
        refine wpAnyH_done (by kernel_rfl) ?_ _
        go_wp2
        go_ret
        exact ⟨rfl, BX3.out⟩
      · refine step_web rfl rfl ?_
        intro X1 gz hT hg hB
        have hgz : Y9.heap.size ≤ gz := Nat.le_trans ZX0.out.size hg
        have ZX1 : Hid (Below Y9.heap.size Y9 X1) := Lib.hid (ZX0.out.trans (hB.mono ZX0.out.size))
        have TX1 : Hid (Blk X1 gz 31 [.slice none 0 0, .slice none 0 0]) := Lib.hid (hT)
        clear ZX0 hB hT hg
        refine hK.out _ _ (ZX1.out) (fun hHeld => ?_)
        clear hK K
        show wpAnyH _ _ _ _ _ _ _ (Act.put _ (some 17) _) _
        simp only [Act.put, List.setIfInBounds_toArray, List.set_cons_zero, List.set_cons_succ]
        refine wpAnyH_ready (rs := [12]) (by kernel_rfl) (by simp) ?_
        refine AllReadyH.cons rfl (fun K hK => ?_) AllReadyH.nil
        refine step_call rfl 27 #[.tmp 60, .tmp 61, .tmp 70, .tmp 71] #[31, 3, 3, 40] rfl #[.agg #[.slice sa2 sl sc2, .slice ea2 el ec2], .int .i64 (k : Int), .int .i64 p, .int .u64 amt] (by simp [Act.eval]) (by go_simp) (back_any sa2 sl sc2 ea2 el ec2 sp es k node amt p X1 (HSL.out ▸ H0.out) HOK.out HAM.out HSL.out HEL.out (S2Y9.out.below ZX1.out) (E2Y9.out.below ZX1.out) HN3.out HN4.out hs20 he30 HNN.out) ?_
        rintro e X2 ⟨sa3, sc3, ea3, ec3, rfl, hS, hE, hB⟩
        have ZX2 : Hid (Below Y9.heap.size Y9 X2) := Lib.hid (ZX1.out.trans (hB.mono ZX1.out.size))
        have TX2 : Hid (Blk X2 gz 31 [.slice none 0 0, .slice none 0 0]) := Lib.hid (TX1.out.below hB TX1.out.lt)
        have S3X2 : Hid (SpotRow X2 sa3 sp) := Lib.hid (hS)
        have E3X2 : Hid (EdgeRow X2 ea3 es) := Lib.hid (hE)
        clear ZX1 TX1 hB hS hE
        refine ⟨_, rfl, hK.out _ _ (ZX2.out) (fun hHeld => ?_)⟩
        clear hK K
        show wpAnyH _ _ _ _ _ _ _ (Act.put _ (some 72) _) _
        simp only [Act.put, List.setIfInBounds_toArray, List.set_cons_zero, List.set_cons_succ]
        refine wpAnyH_take (i := 13) (v := .tuple #[.agg #[.slice sa3 sl sc3, .slice ea3 el ec3], .int .i64 0]) rfl (by kernel_rfl) (by kernel_rfl) (by kernel_rfl) (fun _ _ _ h => h) (Or.inl ⟨by rfl, fun w _ => by rfl⟩) hHeld ?_
        show wpAnyH _ _ _ _ _ _ _ (Act.put _ (some 59) _) _
        simp only [Act.put, List.setIfInBounds_toArray, List.set_cons_zero, List.set_cons_succ]
        refine wpAnyH_take (i := 14) (v := .agg #[.slice sa3 sl sc3, .slice ea3 el ec3]) rfl (by kernel_rfl) (by kernel_rfl) (by kernel_rfl) (fun _ _ _ h => h) (Or.inl ⟨by rfl, by intro w' h; go_simp⟩) hHeld ?_
        show wpAnyH _ _ _ _ _ _ _ (Act.put _ (some 73) _) _
        simp only [Act.put, List.setIfInBounds_toArray, List.set_cons_zero, List.set_cons_succ]
        refine wpAnyH_take (i := 15) (v := .int .i64 0) rfl (by kernel_rfl) (by kernel_rfl) (by kernel_rfl) (fun _ _ _ h => h) (Or.inl ⟨by rfl, by intro w' h; go_simp⟩) hHeld ?_
        show wpAnyH _ _ _ _ _ _ _ (Act.put _ (some 74) _) _
        simp only [Act.put, List.setIfInBounds_toArray, List.set_cons_zero, List.set_cons_succ]
        refine wpAnyH_ready (rs := [17]) (by kernel_rfl) (by simp) ?_
        refine AllReadyH.cons rfl (fun K hK => ?_) AllReadyH.nil
        refine step_keepW rfl (.tmp 17) (.tmp 73) rfl gz _ _ _ _ _ _ _ _ _ _ _ _ rfl rfl TX2.out ?_
        intro X3 hT hS hE hU
        have TX3 : Hid (Blk X3 gz 31 [.slice sa3 sl sc3, .slice ea3 el ec3]) := Lib.hid (hT)
        have S3X3 : Hid (SpotRow X3 sa3 sp) := Lib.hid (hS _ S3X2.out)
        have E3X3 : Hid (EdgeRow X3 ea3 es) := Lib.hid (hE _ E3X2.out)
        have ZX3 : Hid (Below Y9.heap.size Y9 X3) := Lib.hid (hU _ _ hgz ZX2.out)
        clear  hT hS hE hU
        refine hK.out _ _ (ZX3.out) (fun hHeld => ?_)
        clear hK K
        show wpAnyH _ _ _ _ _ _ _ (Act.put _ none _) _
        simp only [Act.put]
        refine wpAnyH_take (i := 18) (v := .int .i64 0) rfl (by kernel_rfl) (by kernel_rfl) (by kernel_rfl) (fun _ _ _ h => h) (Or.inl ⟨by rfl, fun w _ => by rfl⟩) hHeld ?_
        show wpAnyH _ _ _ _ _ _ _ (Act.put _ (some 18) _) _
        simp only [Act.put, List.setIfInBounds_toArray, List.set_cons_zero, List.set_cons_succ]
        refine wpAnyH_done (by kernel_rfl) ?_ _
        clear hHeld
        have BX3 : Hid (Below w.heap.size w X3) := Lib.hid (BY9.out.trans (ZX3.out.mono BY9.out.size))
        have S0X3 : Hid (SpotRow X3 sa0 sp) := Lib.hid (S0Y9.out.below ZX3.out)
        have E0X3 : Hid (EdgeRow X3 ea0 es) := Lib.hid (E0Y9.out.below ZX3.out)
        have PX3 : Hid (Blk X3 gp 25 [.slice sa0 sl sc0, .slice ea0 el ec0]) := Lib.hid (PY9.out.below ZX3.out PY9.out.lt)
        go_wp2_with fail
        have hBz : Below X3.heap.size X3 X3.drew := below_drewN (Below.refl _ _) 1
        have BV0 : Hid (Below w.heap.size w X3.drew) := Lib.hid (BX3.out.trans (hBz.mono BX3.out.size))
        have S0V0 : Hid (SpotRow X3.drew sa0 sp) := Lib.hid (S0X3.out.below hBz)
        have E0V0 : Hid (EdgeRow X3.drew ea0 es) := Lib.hid (E0X3.out.below hBz)
        have PV0 : Hid (Blk X3.drew gp 25 [.slice sa0 sl sc0, .slice ea0 el ec0]) := Lib.hid (PX3.out.below hBz PX3.out.lt)
        have TV0 : Hid (Blk X3.drew gz 31 [.slice sa3 sl sc3, .slice ea3 el ec3]) := Lib.hid (TX3.out.below hBz TX3.out.lt)
        have S3V0 : Hid (SpotRow X3.drew sa3 sp) := Lib.hid (S3X3.out.below hBz)
        have E3V0 : Hid (EdgeRow X3.drew ea3 es) := Lib.hid (E3X3.out.below hBz)
        clear hBz
        refine wp_region_held_drew (S := fun w' => Blk w' gz 31 [.slice sa3 sl sc3, .slice ea3 el ec3] ∧ Blk w' gp 25 [.slice sa0 sl sc0, .slice ea0 el ec0]) (by kernel_rfl) (⟨TV0.out, PV0.out⟩) (fun hHeld => ?_)
        generalize X3.drew = V0 at hHeld BV0 S0V0 E0V0 PV0 TV0 S3V0 E3V0 ⊢
        refine wpAnyH_ready (rs := [0]) (by kernel_rfl) (by simp) ?_
        refine AllReadyH.cons rfl (fun K hK => ?_) AllReadyH.nil
        refine step_call rfl 14 #[] #[] rfl #[] (by simp) (by go_simp) (wawake_any V0) ?_
        rintro e X1 ⟨rfl, hB⟩
        have BX1 : Hid (Below w.heap.size w X1) := Lib.hid (BV0.out.trans (hB.mono BV0.out.size))
        have S0X1 : Hid (SpotRow X1 sa0 sp) := Lib.hid (S0V0.out.below hB)
        have E0X1 : Hid (EdgeRow X1 ea0 es) := Lib.hid (E0V0.out.below hB)
        have PX1 : Hid (Blk X1 gp 25 [.slice sa0 sl sc0, .slice ea0 el ec0]) := Lib.hid (PV0.out.below hB PV0.out.lt)
        have TX1 : Hid (Blk X1 gz 31 [.slice sa3 sl sc3, .slice ea3 el ec3]) := Lib.hid (TV0.out.below hB TV0.out.lt)
        have S3X1 : Hid (SpotRow X1 sa3 sp) := Lib.hid (S3V0.out.below hB)
        have E3X1 : Hid (EdgeRow X1 ea3 es) := Lib.hid (E3V0.out.below hB)
        clear BV0 S0V0 E0V0 PV0 TV0 S3V0 E3V0 hB
        refine ⟨_, rfl, hK.out _ _ (⟨TX1.out, PX1.out⟩) (fun hHeld => ?_)⟩
        clear hK K
        show wpAnyH _ _ _ _ _ _ _ (Act.put _ (some 75) _) _
        simp only [Act.put, List.setIfInBounds_toArray, List.set_cons_zero, List.set_cons_succ]
        refine wpAnyH_take (i := 1) (v := .bool true) rfl (by kernel_rfl) (by kernel_rfl) (by kernel_rfl) (fun _ _ _ h => h) (Or.inl ⟨by rfl, fun w _ => by rfl⟩) hHeld ?_
        show wpAnyH _ _ _ _ _ _ _ (Act.put _ (some 76) _) _
        simp only [Act.put, List.setIfInBounds_toArray, List.set_cons_zero, List.set_cons_succ]
        refine wpAnyH_take (i := 2) (v := .int .i64 (allE es)) rfl (by kernel_rfl) (by kernel_rfl) (by kernel_rfl) (fun _ _ _ h => h) (Or.inl ⟨by rfl, fun w _ => by rfl⟩) hHeld ?_
        show wpAnyH _ _ _ _ _ _ _ (Act.put _ (some 77) _) _
        simp only [Act.put, List.setIfInBounds_toArray, List.set_cons_zero, List.set_cons_succ]
        refine wpAnyH_take (i := 3) (v := .int .i64 (allE es)) rfl (by kernel_rfl) (by kernel_rfl) (by kernel_rfl) (fun _ _ _ h => h) (Or.inl ⟨by rfl, fun w _ => by rfl⟩) hHeld ?_
        show wpAnyH _ _ _ _ _ _ _ (Act.put _ (some 78) _) _
        simp only [Act.put, List.setIfInBounds_toArray, List.set_cons_zero, List.set_cons_succ]
        refine wpAnyH_take (i := 4) (v := .bool true) rfl (by kernel_rfl) (by kernel_rfl) (by kernel_rfl) (fun _ _ _ h => h) (Or.inl ⟨by rfl, by intro w' h; go_simp⟩) hHeld ?_
        show wpAnyH _ _ _ _ _ _ _ (Act.put _ (some 79) _) _
        simp only [Act.put, List.setIfInBounds_toArray, List.set_cons_zero, List.set_cons_succ]
        refine wpAnyH_take (i := 5) (v := .bool true) rfl (by kernel_rfl) (by kernel_rfl) (by kernel_rfl) (fun _ _ _ h => h) (Or.inl ⟨by rfl, by intro w hSw; first | rfl | go_simp⟩) hHeld ?_
        show wpAnyH _ _ _ _ _ _ _ (Act.put _ (some 80) _) _
        simp only [Act.put, List.setIfInBounds_toArray, List.set_cons_zero, List.set_cons_succ]
        refine wpAnyH_take (i := 6) (v := .bool true) rfl (by kernel_rfl) (by kernel_rfl) (by kernel_rfl) (fun _ _ _ h => h) (Or.inl ⟨by rfl, fun w _ => by rfl⟩) hHeld ?_
        show wpAnyH _ _ _ _ _ _ _ (Act.put _ (some 81) _) _
        simp only [Act.put, List.setIfInBounds_toArray, List.set_cons_zero, List.set_cons_succ]
        refine wpAnyH_take (i := 7) (v := .int .u64 (allV es)) rfl (by kernel_rfl) (by kernel_rfl) (by kernel_rfl) (fun _ _ _ h => h) (Or.inl ⟨by rfl, fun w _ => by rfl⟩) hHeld ?_
        show wpAnyH _ _ _ _ _ _ _ (Act.put _ (some 82) _) _
        simp only [Act.put, List.setIfInBounds_toArray, List.set_cons_zero, List.set_cons_succ]
        refine wpAnyH_take (i := 8) (v := .int .u64 (allV es)) rfl (by kernel_rfl) (by kernel_rfl) (by kernel_rfl) (fun _ _ _ h => h) (Or.inl ⟨by rfl, fun w _ => by rfl⟩) hHeld ?_
        show wpAnyH _ _ _ _ _ _ _ (Act.put _ (some 83) _) _
        simp only [Act.put, List.setIfInBounds_toArray, List.set_cons_zero, List.set_cons_succ]
        refine wpAnyH_take (i := 9) (v := .bool true) rfl (by kernel_rfl) (by kernel_rfl) (by kernel_rfl) (fun _ _ _ h => h) (Or.inl ⟨by rfl, by intro w' h; go_simp⟩) hHeld ?_
        show wpAnyH _ _ _ _ _ _ _ (Act.put _ (some 84) _) _
        simp only [Act.put, List.setIfInBounds_toArray, List.set_cons_zero, List.set_cons_succ]
        refine wpAnyH_take (i := 10) (v := .bool true) rfl (by kernel_rfl) (by kernel_rfl) (by kernel_rfl) (fun _ _ _ h => h) (Or.inl ⟨by rfl, by intro w hSw; first | rfl | go_simp⟩) hHeld ?_
        show wpAnyH _ _ _ _ _ _ _ (Act.put _ (some 85) _) _
        simp only [Act.put, List.setIfInBounds_toArray, List.set_cons_zero, List.set_cons_succ]
        refine wpAnyH_take (i := 11) (v := .bool true) rfl (by kernel_rfl) (by kernel_rfl) (by kernel_rfl) (fun _ _ _ h => h) (Or.inl ⟨by rfl, fun w _ => by rfl⟩) hHeld ?_
        show wpAnyH _ _ _ _ _ _ _ (Act.put _ (some 86) _) _
        simp only [Act.put, List.setIfInBounds_toArray, List.set_cons_zero, List.set_cons_succ]
        refine wpAnyH_take (i := 12) (v := .int .i64 0) rfl (by kernel_rfl) (by kernel_rfl) (by kernel_rfl) (fun _ _ _ h => h) (Or.inl ⟨by rfl, fun w _ => by rfl⟩) hHeld ?_
        show wpAnyH _ _ _ _ _ _ _ (Act.put _ (some 87) _) _
        simp only [Act.put, List.setIfInBounds_toArray, List.set_cons_zero, List.set_cons_succ]
        refine wpAnyH_take (i := 13) (v := .bool true) rfl (by kernel_rfl) (by kernel_rfl) (by kernel_rfl) (fun _ _ _ h => h) (Or.inl ⟨by rfl, by intro w' h; go_simp⟩) hHeld ?_
        show wpAnyH _ _ _ _ _ _ _ (Act.put _ (some 88) _) _
        simp only [Act.put, List.setIfInBounds_toArray, List.set_cons_zero, List.set_cons_succ]
        refine wpAnyH_take (i := 14) (v := .bool true) rfl (by kernel_rfl) (by kernel_rfl) (by kernel_rfl) (fun _ _ _ h => h) (Or.inl ⟨by rfl, by intro w hSw; first | rfl | go_simp⟩) hHeld ?_
        show wpAnyH _ _ _ _ _ _ _ (Act.put _ (some 89) _) _
        simp only [Act.put, List.setIfInBounds_toArray, List.set_cons_zero, List.set_cons_succ]
        refine wpAnyH_take (i := 15) (v := .bool true) rfl (by kernel_rfl) (by kernel_rfl) (by kernel_rfl) (fun _ _ _ h => h) (Or.inl ⟨by rfl, fun w _ => by rfl⟩) hHeld ?_
        show wpAnyH _ _ _ _ _ _ _ (Act.put _ (some 90) _) _
        simp only [Act.put, List.setIfInBounds_toArray, List.set_cons_zero, List.set_cons_succ]
        refine wpAnyH_take (i := 16) (v := .agg #[.slice sa3 sl sc3, .slice ea3 el ec3]) rfl (by kernel_rfl) (by kernel_rfl) (by kernel_rfl) (fun _ _ _ h => h) (Or.inl ⟨by rfl, by intro w' h; have k0 := Blk.cell h.1 0; simp only [List.getElem?_cons_zero] at k0; have k1 := Blk.cell h.1 1; simp only [List.getElem?_cons_zero, List.getElem?_cons_succ] at k1; go_simp⟩) hHeld ?_
        show wpAnyH _ _ _ _ _ _ _ (Act.put _ (some 91) _) _
        simp only [Act.put, List.setIfInBounds_toArray, List.set_cons_zero, List.set_cons_succ]
        refine wpAnyH_take (i := 18) (v := .agg #[.slice sa0 sl sc0, .slice ea0 el ec0]) rfl (by kernel_rfl) (by kernel_rfl) (by kernel_rfl) (fun _ _ _ h => h) (Or.inl ⟨by rfl, by intro w' h; have k0 := Blk.cell h.2 0; simp only [List.getElem?_cons_zero] at k0; have k1 := Blk.cell h.2 1; simp only [List.getElem?_cons_zero, List.getElem?_cons_succ] at k1; go_simp⟩) hHeld ?_
        show wpAnyH _ _ _ _ _ _ _ (Act.put _ (some 93) _) _
        simp only [Act.put, List.setIfInBounds_toArray, List.set_cons_zero, List.set_cons_succ]
        refine wpAnyH_ready (rs := [17]) (by kernel_rfl) (by simp) ?_
        refine AllReadyH.cons rfl (fun K hK => ?_) AllReadyH.nil
        refine step_call rfl 32 #[.tmp 91] #[31] rfl #[.agg #[.slice sa3 sl sc3, .slice ea3 el ec3]] (by simp [Act.eval]) (by go_simp) (wfrom_any sa3 sl sc3 ea3 el ec3 sp es X1 S3X1.out E3X1.out HSL.out HEL.out hs20 he30) ?_
        rintro e X2 ⟨sa4, sc4, ea4, ec4, rfl, hS, hE, hB⟩
        have BX2 : Hid (Below w.heap.size w X2) := Lib.hid (BX1.out.trans (hB.mono BX1.out.size))
        have S0X2 : Hid (SpotRow X2 sa0 sp) := Lib.hid (S0X1.out.below hB)
        have E0X2 : Hid (EdgeRow X2 ea0 es) := Lib.hid (E0X1.out.below hB)
        have PX2 : Hid (Blk X2 gp 25 [.slice sa0 sl sc0, .slice ea0 el ec0]) := Lib.hid (PX1.out.below hB PX1.out.lt)
        have TX2 : Hid (Blk X2 gz 31 [.slice sa3 sl sc3, .slice ea3 el ec3]) := Lib.hid (TX1.out.below hB TX1.out.lt)
        have S3X2 : Hid (SpotRow X2 sa3 sp) := Lib.hid (S3X1.out.below hB)
        have E3X2 : Hid (EdgeRow X2 ea3 es) := Lib.hid (E3X1.out.below hB)
        have S4X2 : Hid (SpotRow X2 sa4 sp) := Lib.hid (hS)
        have E4X2 : Hid (EdgeRow X2 ea4 es) := Lib.hid (hE)
        clear BX1 S0X1 E0X1 PX1 TX1 S3X1 E3X1 hB hS hE
        refine ⟨_, rfl, hK.out _ _ (⟨TX2.out, PX2.out⟩) (fun hHeld => ?_)⟩
        clear hK K
        show wpAnyH _ _ _ _ _ _ _ (Act.put _ (some 92) _) _
        simp only [Act.put, List.setIfInBounds_toArray, List.set_cons_zero, List.set_cons_succ]
        refine wpAnyH_ready (rs := [19]) (by kernel_rfl) (by simp) ?_
        refine AllReadyH.cons rfl (fun K hK => ?_) AllReadyH.nil
        refine step_call rfl 31 #[.tmp 92, .tmp 93] #[25, 25] rfl #[.agg #[.slice sa4 sl sc4, .slice ea4 el ec4], .agg #[.slice sa0 sl sc0, .slice ea0 el ec0]] (by simp [Act.eval]) (by go_simp) (wsame_any sa4 sl sc4 ea4 el ec4 sa0 sc0 ea0 ec0 sp es X2 S4X2.out E4X2.out S0X2.out E0X2.out HSL.out HEL.out hs20 he30) ?_
        rintro e X3 ⟨rfl, hB⟩
        have BX3 : Hid (Below w.heap.size w X3) := Lib.hid (BX2.out.trans (hB.mono BX2.out.size))
        have S0X3 : Hid (SpotRow X3 sa0 sp) := Lib.hid (S0X2.out.below hB)
        have E0X3 : Hid (EdgeRow X3 ea0 es) := Lib.hid (E0X2.out.below hB)
        have PX3 : Hid (Blk X3 gp 25 [.slice sa0 sl sc0, .slice ea0 el ec0]) := Lib.hid (PX2.out.below hB PX2.out.lt)
        have TX3 : Hid (Blk X3 gz 31 [.slice sa3 sl sc3, .slice ea3 el ec3]) := Lib.hid (TX2.out.below hB TX2.out.lt)
        have S3X3 : Hid (SpotRow X3 sa3 sp) := Lib.hid (S3X2.out.below hB)
        have E3X3 : Hid (EdgeRow X3 ea3 es) := Lib.hid (E3X2.out.below hB)
        have S4X3 : Hid (SpotRow X3 sa4 sp) := Lib.hid (S4X2.out.below hB)
        have E4X3 : Hid (EdgeRow X3 ea4 es) := Lib.hid (E4X2.out.below hB)
        clear BX2 S0X2 E0X2 PX2 TX2 S3X2 E3X2 S4X2 E4X2 hB
        refine ⟨_, rfl, hK.out _ _ (⟨TX3.out, PX3.out⟩) (fun hHeld => ?_)⟩
        clear hK K
        show wpAnyH _ _ _ _ _ _ _ (Act.put _ (some 94) _) _
        simp only [Act.put, List.setIfInBounds_toArray, List.set_cons_zero, List.set_cons_succ]
        refine wpAnyH_take (i := 20) (v := .bool true) rfl (by kernel_rfl) (by kernel_rfl) (by kernel_rfl) (fun _ _ _ h => h) (Or.inl ⟨by rfl, by intro w hSw; first | rfl | go_simp⟩) hHeld ?_
        show wpAnyH _ _ _ _ _ _ _ (Act.put _ (some 95) _) _
        simp only [Act.put, List.setIfInBounds_toArray, List.set_cons_zero, List.set_cons_succ]
        refine wpAnyH_take (i := 21) (v := .bool true) rfl (by kernel_rfl) (by kernel_rfl) (by kernel_rfl) (fun _ _ _ h => h) (Or.inl ⟨by rfl, fun w _ => by rfl⟩) hHeld ?_
        show wpAnyH _ _ _ _ _ _ _ (Act.put _ (some 8) _) _
        simp only [Act.put, List.setIfInBounds_toArray, List.set_cons_zero, List.set_cons_succ]
        refine wpAnyH_done (by kernel_rfl) ?_ _
        go_wp2
        go_ret
        exact ⟨rfl, BX3.out⟩
  · refine (HSE.out).mono ?_
    rintro e Y5 ⟨v, rfl, hB, _, hv⟩
    obtain rfl := hv h0
    have h0e := h0
    generalize sentErr sp.length es edge node amt = z at h0e ⊢
    have b0 : (z != 0) = true := by simpa using h0e
    clear hv h0 h0e HSE HW
    have BY5 : Hid (Below w.heap.size w Y5) := Lib.hid (BY4.out.trans (hB.mono BY4.out.size))
    have S0Y5 : Hid (SpotRow Y5 sa0 sp) := Lib.hid (S0Y4.out.below hB)
    have E0Y5 : Hid (EdgeRow Y5 ea0 es) := Lib.hid (E0Y4.out.below hB)
    have PY5 : Hid (Blk Y5 gp 25 [.slice sa0 sl sc0, .slice ea0 el ec0]) := Lib.hid (PY4.out.below hB PY4.out.lt)
    have S1Y5 : Hid (SpotRow Y5 sa1 sp) := Lib.hid (S1Y4.out.below hB)
    have E1Y5 : Hid (EdgeRow Y5 ea1 es) := Lib.hid (E1Y4.out.below hB)
    have QY5 : Hid (Blk Y5 gq 31 [.slice sa1 sl sc1, .slice ea1 el ec1]) := Lib.hid (QY4.out.below hB QY4.out.lt)
    clear BY4 S0Y4 E0Y4 PY4 S1Y4 E1Y4 QY4
    clear hB
    clear PY5
    clear QY5
    clear S0Y5
    clear E0Y5
    clear S1Y5
    clear E1Y5
    unfold noWeb
    have hB : Below Y5.heap.size Y5 (Y5.alloc (.cells #[.slice none 0 0, .slice none 0 0] 31)) := (Below.refl _ _).alloc (Nat.le_refl _) _
    have BY6 : Hid (Below w.heap.size w (Y5.alloc (.cells #[.slice none 0 0, .slice none 0 0] 31))) := Lib.hid (BY5.out.trans (hB.mono BY5.out.size))
    have RY6 : Hid (Blk (Y5.alloc (.cells #[.slice none 0 0, .slice none 0 0] 31)) Y5.heap.size 31 [.slice none 0 0, .slice none 0 0]) := Lib.hid (Blk.new _ _ [.slice none 0 0, .slice none 0 0])
    clear hB BY5
    go_wp2_with fail
    generalize (Y5.alloc (.cells #[.slice none 0 0, .slice none 0 0] 31)) = Y6 at BY6 RY6 ⊢
    generalize Y5.heap.size = gr at RY6 ⊢
    refine (wawake_any Y6).mono ?_
    rintro e Y7 ⟨rfl, hB⟩
    have BY7 : Hid (Below w.heap.size w Y7) := Lib.hid (BY6.out.trans (hB.mono BY6.out.size))
    have RY7 : Hid (Blk Y7 gr 31 [.slice none 0 0, .slice none 0 0]) := Lib.hid (RY6.out.below hB RY6.out.lt)
    clear BY6 RY6
    clear hB
    have cR0 := Blk.cell RY7.out 0
    have cR1 := Blk.cell RY7.out 1
    simp only [List.getElem?_cons_zero, List.getElem?_cons_succ] at cR0 cR1
    go_wp2
    clear cR0 cR1
    go_ret
    exact ⟨rfl, BY7.out⟩
set_option maxRecDepth 100000 in
theorem lifted (os : Os) (started : os.Started) (H : Type) (enc : TypeId × Value → H) :
    ReturnsInHanded {} Try.checked os 6 .any (Rows.webBackSpec.pre6 enc Try.prog Try.f6 Rows.webBackRow.domain false) (Rows.webBackSpec.post enc Try.prog Try.f6 false true false false) := by
  refine returnsInHanded_of_change (C := Try.checked) own started (by kernel_rfl) Try.func6
    (ChangeSpec.witness6 (enc := enc) (C := Try.checked) false ⟨#[], #[.agg #[.slice none 0 0, .slice none 0 0], .int .i64 0, .int .i64 0, .int .u64 0], []⟩ 8 (by kernel_rfl) (by kernel_rfl) (by kernel_rfl) (by kernel_rfl)) ?_
  intro W base args ds gs before hval0 hW hcnd _
  have hval : ∀ (j : Nat) t v, Try.f6.params[j]? = some t → args[j]? = some v → Value.okWide Try.prog W .any base t v := hval0
  have hW' := hW
  obtain ⟨p, q, hA0, hV, rfl, hfz, hnd⟩ := hW
  have hA : DataW.TrodAll enc Try.prog W 0 (fun _ => true) true Try.f6.params.toList args.toList ds p := hA0
  rw [Try.params6] at hA hval
  obtain ⟨v0, vs0, dd0, ds0, p0, q0, hargs, rfl, rfl, h0, r0⟩ := trodAll_cons hA
  obtain ⟨v1, vs1, dd1, ds1, p1, q1, rfl, rfl, rfl, h1, r1⟩ := trodAll_cons r0
  obtain ⟨v2, vs2, dd2, ds2, p2, q2, rfl, rfl, rfl, h2, r2⟩ := trodAll_cons r1
  obtain ⟨v3, vs3, dd3, ds3, p3, q3, rfl, rfl, rfl, h3, r3⟩ := trodAll_cons r2
  obtain ⟨rfl, rfl, rfl⟩ := trodAll_nil r3
  obtain rfl : args = #[v0, v1, v2, v3] := by cases args; simp_all
  obtain ⟨rfl, rfl⟩ := trodVars_none hV
  have k0 := h0
  have lt0 : ∀ x ∈ p0, x.block < W.heap.size := by obtain ⟨m, hm⟩ := k0; exact DataW.trod_lt m _ _ _ hm
  obtain ⟨A0, l0, c0, B0, m0, d0, sp0, es0, rfl, hsp0, hes0, hS0, hE0, hok0, hm0, hn0⟩ := openWeb (hval 0 25 v0 rfl rfl) h0
  obtain ⟨a1, rfl, rfl, rfl, w1⟩ := open_int Try.underlying3 (hval 1 3 v1 rfl rfl) h1
  obtain ⟨a2, rfl, rfl, rfl, w2⟩ := open_int Try.underlying3 (hval 2 3 v2 rfl rfl) h2
  obtain ⟨a3, rfl, rfl, rfl, w3⟩ := open_int Try.underlying40 (hval 3 40 v3 rfl rfl) h3
  clear hA0 hval0
  refine Calls.mono (R := Ok W) ?_ fun e W1 ⟨he, bel⟩ => ?_
  · skip
    by_cases h : lightB l0 m0 = true
    · exact way_light A0 l0 c0 B0 m0 d0 sp0 es0 a1 a2 a3 W h hsp0 hes0 hS0 hE0 hok0 (word_wf w3) w1
    · exact way_dark A0 l0 c0 B0 m0 d0 a1 a2 a3 W (by simpa using h)
  subst he
  exact ⟨_, rfl, _, _, _, [], _, [], hW', trodAll_mk1 (shut_bool Try.underlying4 _), (trodAll_cons_mk (Below.trod laidOut (by kernel_rfl) (of_decide_eq_true (by kernel_rfl)) k0 bel lt0) (trodAll_cons_mk (shut_int Try.underlying3 w1) (trodAll_cons_mk (shut_int Try.underlying3 w2) (trodAll_cons_mk (shut_int Try.underlying40 w3) trodAll_mk0)))), rfl, bel.frame _, fun h => by cases h⟩

theorem proved : Rows.WebBackSaid :=
  OpenClaim.holds_of_wide 6 Try.f6 rfl rfl rfl rfl rfl rfl rfl ⟨rfl, rfl, rfl, rfl, rfl⟩ rfl rfl rfl rfl rfl (by kernel_rfl) Try.func6 (by kernel_rfl)
    (of_decide_eq_true (by kernel_rfl)) (by unfold Func.isWrapper; first | (rw [if_pos (by decide +kernel)]; kernel_rfl) | (rw [if_neg (by decide +kernel)]; exact ⟨rfl, rfl⟩))
    (fun os started H enc _ => lifted os started H enc)
#print axioms proved
end Go.Proofs.Ytnnimjaigciedaa.webBack
