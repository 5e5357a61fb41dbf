/-
  tollhouselaw07.WebSends returns true for every input: a web in which any amount went anywhere, or why it can't, and how much all channels hold, are the document's; the web itself isn't turned; nothing that was there is written.
-/
import Derived.Test.YtnnimjaigciedaaWebAs
namespace Go.Proofs.Ytnnimjaigciedaa.webSends
open Go.ChangeShapes Go.WideShapes Go.ChangeAt Go.RowKit
set_option linter.unusedVariables false

def Ok (w : World) (e : Ending) (w' : World) : Prop := e = .returned (.bool true) ∧ Below w.heap.size w w'

set_option maxRecDepth 100000 in
set_option maxHeartbeats 4000000 in
theorem way_dark (sa : Option Addr) (sl sc : Nat) (ea : Option Addr) (el ec : Nat) (edge node amt : Int) (w : World) (hl : lightB sl el = false) :
    Calls Try.prog 5 #[.agg #[.slice sa sl sc, .slice ea el ec], .int .i64 edge, .int .i64 node, .int .u64 amt] w (Ok w) := by
  have HL := Lib.hid (fun w => light_any sa sl sc ea el ec w)
  rw [hl] at HL
  have BX : Hid (Below w.heap.size w w) := Lib.hid (Below.refl _ _)
  clear hl
  go_enter Try.func5, Try.ntmps5
  have B0 : Hid (Below w.heap.size w (w.alloc (.cells #[.slice sa sl sc, .slice ea el ec] 25))) := Lib.hid ((Below.refl _ _).alloc (Nat.le_refl _) _)
  clear BX
  go_wp2_with fail
  refine (HL.out _).mono ?_
  rintro e Y ⟨rfl, hB⟩
  have B1 := Lib.hid (B0.out.trans (hB.mono B0.out.size))
  clear hB B0
  go_wp2_with fail
  refine (wawake_any _).mono ?_
  rintro e Y2 ⟨rfl, hB⟩
  have B2 := Lib.hid (B1.out.trans (hB.mono B1.out.size))
  clear hB B1
  go_wp2
  go_ret
  exact ⟨rfl, B2.out⟩

set_option maxRecDepth 100000 in
set_option maxHeartbeats 8000000 in
theorem way_light (sa0 : Option Addr) (sl sc0 : Nat) (ea0 : Option Addr) (el ec0 : Nat) (sp : List (Int × Int)) (es : List Ed) (edge node amt : Int) (w : World) (hl : lightB sl el = true) (hsl : sp.length = sl) (hel : es.length = el) (hS : SpotRow w sa0 sp) (hE : EdgeRow w ea0 es) (hok : ∀ e ∈ es, EdOk e) (hamt : Word amt) :
    Calls Try.prog 5 #[.agg #[.slice sa0 sl sc0, .slice ea0 el ec0], .int .i64 edge, .int .i64 node, .int .u64 amt] w (Ok w) := by
  have HL := Lib.hid (fun w => light_any sa0 sl sc0 ea0 el ec0 w)
  rw [hl] at HL
  have hlt : sl ≤ 20 ∧ el ≤ 30 := by unfold lightB at hl; exact of_decide_eq_true hl
  obtain ⟨hs20, he30⟩ := hlt
  have HSL := Lib.hid hsl
  have HEL := Lib.hid hel
  have HOK := Lib.hid hok
  have Bw : Hid (Below w.heap.size w w) := Lib.hid (Below.refl _ _)
  have S0w := Lib.hid hS
  have E0w := Lib.hid hE
  have HAM := Lib.hid hamt
  clear hl hsl hel hok hS hE hamt
  go_enter Try.func5, Try.ntmps5
  have hB : Below w.heap.size w (w.alloc (.cells #[.slice sa0 sl sc0, .slice ea0 el ec0] 25)) := (Below.refl _ _).alloc (Nat.le_refl _) _
  have BY1 : Hid (Below w.heap.size w (w.alloc (.cells #[.slice sa0 sl sc0, .slice ea0 el ec0] 25))) := Lib.hid (Bw.out.trans (hB.mono Bw.out.size))
  have S0Y1 : Hid (SpotRow (w.alloc (.cells #[.slice sa0 sl sc0, .slice ea0 el ec0] 25)) sa0 sp) := Lib.hid (S0w.out.below hB)
  have E0Y1 : Hid (EdgeRow (w.alloc (.cells #[.slice sa0 sl sc0, .slice ea0 el ec0] 25)) ea0 es) := Lib.hid (E0w.out.below hB)
  have PY1 : Hid (Blk (w.alloc (.cells #[.slice sa0 sl sc0, .slice ea0 el ec0] 25)) w.heap.size 25 [.slice sa0 sl sc0, .slice ea0 el ec0]) := Lib.hid (Blk.new _ _ [.slice sa0 sl sc0, .slice ea0 el ec0])
  clear hB Bw S0w E0w
  go_wp2_with fail
  generalize (w.alloc (.cells #[.slice sa0 sl sc0, .slice ea0 el ec0] 25)) = Y1 at BY1 S0Y1 E0Y1 PY1 ⊢
  generalize w.heap.size = gp at PY1 ⊢
  refine (HL.out Y1).mono ?_
  rintro e Y2 ⟨rfl, hB⟩
  have BY2 : Hid (Below w.heap.size w Y2) := Lib.hid (BY1.out.trans (hB.mono BY1.out.size))
  have S0Y2 : Hid (SpotRow Y2 sa0 sp) := Lib.hid (S0Y1.out.below hB)
  have E0Y2 : Hid (EdgeRow Y2 ea0 es) := Lib.hid (E0Y1.out.below hB)
  have PY2 : Hid (Blk Y2 gp 25 [.slice sa0 sl sc0, .slice ea0 el ec0]) := Lib.hid (PY1.out.below hB PY1.out.lt)
  clear BY1 S0Y1 E0Y1 PY1
  clear hB
  have cP0 := Blk.cell PY2.out 0
  have cP1 := Blk.cell PY2.out 1
  simp only [List.getElem?_cons_zero, List.getElem?_cons_succ] at cP0 cP1
  go_wp2_with fail
  clear cP0 cP1
  refine (wto_any sa0 sl sc0 ea0 el ec0 sp es Y2 S0Y2.out E0Y2.out HSL.out HEL.out hs20 he30).mono ?_
  rintro e Y3 ⟨sa1, sc1, ea1, ec1, rfl, hS, hE, hn1, hn2, hB⟩
  have BY3 : Hid (Below w.heap.size w Y3) := Lib.hid (BY2.out.trans (hB.mono BY2.out.size))
  have S0Y3 : Hid (SpotRow Y3 sa0 sp) := Lib.hid (S0Y2.out.below hB)
  have E0Y3 : Hid (EdgeRow Y3 ea0 es) := Lib.hid (E0Y2.out.below hB)
  have PY3 : Hid (Blk Y3 gp 25 [.slice sa0 sl sc0, .slice ea0 el ec0]) := Lib.hid (PY2.out.below hB PY2.out.lt)
  clear BY2 S0Y2 E0Y2 PY2
  clear hB
  have S1Y3 : Hid (SpotRow Y3 sa1 sp) := Lib.hid (hS)
  have E1Y3 : Hid (EdgeRow Y3 ea1 es) := Lib.hid (hE)
  have HN1 := Lib.hid hn1
  have HN2 := Lib.hid hn2
  clear hS hE hn1 hn2
  have hB : Below Y3.heap.size Y3 (Y3.alloc (.cells #[.slice sa1 sl sc1, .slice ea1 el ec1] 31)) := (Below.refl _ _).alloc (Nat.le_refl _) _
  have BY4 : Hid (Below w.heap.size w (Y3.alloc (.cells #[.slice sa1 sl sc1, .slice ea1 el ec1] 31))) := Lib.hid (BY3.out.trans (hB.mono BY3.out.size))
  have S0Y4 : Hid (SpotRow (Y3.alloc (.cells #[.slice sa1 sl sc1, .slice ea1 el ec1] 31)) sa0 sp) := Lib.hid (S0Y3.out.below hB)
  have E0Y4 : Hid (EdgeRow (Y3.alloc (.cells #[.slice sa1 sl sc1, .slice ea1 el ec1] 31)) ea0 es) := Lib.hid (E0Y3.out.below hB)
  have PY4 : Hid (Blk (Y3.alloc (.cells #[.slice sa1 sl sc1, .slice ea1 el ec1] 31)) gp 25 [.slice sa0 sl sc0, .slice ea0 el ec0]) := Lib.hid (PY3.out.below hB PY3.out.lt)
  have S1Y4 : Hid (SpotRow (Y3.alloc (.cells #[.slice sa1 sl sc1, .slice ea1 el ec1] 31)) sa1 sp) := Lib.hid (S1Y3.out.below hB)
  have E1Y4 : Hid (EdgeRow (Y3.alloc (.cells #[.slice sa1 sl sc1, .slice ea1 el ec1] 31)) ea1 es) := Lib.hid (E1Y3.out.below hB)
  have QY4 : Hid (Blk (Y3.alloc (.cells #[.slice sa1 sl sc1, .slice ea1 el ec1] 31)) Y3.heap.size 31 [.slice sa1 sl sc1, .slice ea1 el ec1]) := Lib.hid (Blk.new _ _ [.slice sa1 sl sc1, .slice ea1 el ec1])
  clear hB BY3 S0Y3 E0Y3 PY3 S1Y3 E1Y3
  go_wp2_with fail
  generalize (Y3.alloc (.cells #[.slice sa1 sl sc1, .slice ea1 el ec1] 31)) = Y4 at BY4 S0Y4 E0Y4 PY4 S1Y4 E1Y4 QY4 ⊢
  generalize Y3.heap.size = gq at QY4 ⊢
  have HW : Hid (WebAt Y4 (.agg #[.slice sa1 sl sc1, .slice ea1 el ec1]) sp es) := Lib.hid ⟨sa1, sc1, ea1, ec1, by rw [HSL.out, HEL.out], S1Y4.out, E1Y4.out, HN1.out, HN2.out⟩
  have HSE := Lib.hid (sent_any _ sp es edge node amt Y4 HW.out (by rw [HSL.out]; omega) (by rw [HEL.out]; omega) HOK.out HAM.out)
  by_cases h0 : sentErr sp.length es edge node amt = 0
  · refine (HSE.out).mono ?_
    rintro e Y5 ⟨v, rfl, hB, hv, _⟩
    obtain ⟨say, scy, eay, ecy, rfl, hS, hE, _, _⟩ := hv h0
    have BY5 : Hid (Below w.heap.size w Y5) := Lib.hid (BY4.out.trans (hB.mono BY4.out.size))
    have S0Y5 : Hid (SpotRow Y5 sa0 sp) := Lib.hid (S0Y4.out.below hB)
    have E0Y5 : Hid (EdgeRow Y5 ea0 es) := Lib.hid (E0Y4.out.below hB)
    have PY5 : Hid (Blk Y5 gp 25 [.slice sa0 sl sc0, .slice ea0 el ec0]) := Lib.hid (PY4.out.below hB PY4.out.lt)
    have S1Y5 : Hid (SpotRow Y5 sa1 sp) := Lib.hid (S1Y4.out.below hB)
    have E1Y5 : Hid (EdgeRow Y5 ea1 es) := Lib.hid (E1Y4.out.below hB)
    have QY5 : Hid (Blk Y5 gq 31 [.slice sa1 sl sc1, .slice ea1 el ec1]) := Lib.hid (QY4.out.below hB QY4.out.lt)
    clear BY4 S0Y4 E0Y4 PY4 S1Y4 E1Y4 QY4
    clear hB
    have hk0 := sentErr_ok h0
    obtain ⟨_, k, rfl, hk, _, _, _⟩ := hk0
    have hlen := (sent_ok h0 HOK.out HAM.out).2.1
    rw [h0]
    rw [HSL.out, hlen, HEL.out]
    have SyY5 : Hid (SpotRow Y5 say sp) := Lib.hid (hS)
    have EyY5 : Hid (EdgeRow Y5 eay (sentL es k node amt)) := Lib.hid (hE)
    have H0 : Hid (sentErr sl es k node amt = 0) := Lib.hid (by rw [← HSL.out]; exact h0)
    have HLN : Hid ((sentL es k node amt).length = el) := Lib.hid (hlen.trans HEL.out)
    clear hS hE h0 hk hlen HSE HW hv
    have hB : Below Y5.heap.size Y5 (Y5.alloc (.cells #[.slice say sl scy, .slice eay el ecy] 31)) := (Below.refl _ _).alloc (Nat.le_refl _) _
    have BY6 : Hid (Below w.heap.size w (Y5.alloc (.cells #[.slice say sl scy, .slice eay el ecy] 31))) := Lib.hid (BY5.out.trans (hB.mono BY5.out.size))
    have S0Y6 : Hid (SpotRow (Y5.alloc (.cells #[.slice say sl scy, .slice eay el ecy] 31)) sa0 sp) := Lib.hid (S0Y5.out.below hB)
    have E0Y6 : Hid (EdgeRow (Y5.alloc (.cells #[.slice say sl scy, .slice eay el ecy] 31)) ea0 es) := Lib.hid (E0Y5.out.below hB)
    have PY6 : Hid (Blk (Y5.alloc (.cells #[.slice say sl scy, .slice eay el ecy] 31)) gp 25 [.slice sa0 sl sc0, .slice ea0 el ec0]) := Lib.hid (PY5.out.below hB PY5.out.lt)
    have S1Y6 : Hid (SpotRow (Y5.alloc (.cells #[.slice say sl scy, .slice eay el ecy] 31)) sa1 sp) := Lib.hid (S1Y5.out.below hB)
    have E1Y6 : Hid (EdgeRow (Y5.alloc (.cells #[.slice say sl scy, .slice eay el ecy] 31)) ea1 es) := Lib.hid (E1Y5.out.below hB)
    have QY6 : Hid (Blk (Y5.alloc (.cells #[.slice say sl scy, .slice eay el ecy] 31)) gq 31 [.slice sa1 sl sc1, .slice ea1 el ec1]) := Lib.hid (QY5.out.below hB QY5.out.lt)
    have SyY6 : Hid (SpotRow (Y5.alloc (.cells #[.slice say sl scy, .slice eay el ecy] 31)) say sp) := Lib.hid (SyY5.out.below hB)
    have EyY6 : Hid (EdgeRow (Y5.alloc (.cells #[.slice say sl scy, .slice eay el ecy] 31)) eay (sentL es k node amt)) := Lib.hid (EyY5.out.below hB)
    have YY6 : Hid (Blk (Y5.alloc (.cells #[.slice say sl scy, .slice eay el ecy] 31)) Y5.heap.size 31 [.slice say sl scy, .slice eay el ecy]) := Lib.hid (Blk.new _ _ [.slice say sl scy, .slice eay el ecy])
    clear hB BY5 S0Y5 E0Y5 PY5 S1Y5 E1Y5 QY5 SyY5 EyY5
    have cP0 := Blk.cell PY6.out 0
    have cP1 := Blk.cell PY6.out 1
    simp only [List.getElem?_cons_zero, List.getElem?_cons_succ] at cP0 cP1
    go_wp2_with fail
    clear cP0 cP1
    generalize (Y5.alloc (.cells #[.slice say sl scy, .slice eay el ecy] 31)) = Y6 at BY6 S0Y6 E0Y6 PY6 S1Y6 E1Y6 QY6 SyY6 EyY6 YY6 ⊢
    generalize Y5.heap.size = gy at YY6 ⊢
    refine (rsent_any sa0 sl sc0 ea0 el ec0 es (k : Int) node amt Y6 E0Y6.out HEL.out (by omega) (by omega) HOK.out HAM.out).mono ?_
    rintro e Y7 ⟨hB, hv⟩
    obtain ⟨_, eaz, ecz, rfl, hE, _⟩ | ⟨hn, _⟩ := hv
    rotate_left
    · exact absurd H0.out hn
    have BY7 : Hid (Below w.heap.size w Y7) := Lib.hid (BY6.out.trans (hB.mono BY6.out.size))
    have S0Y7 : Hid (SpotRow Y7 sa0 sp) := Lib.hid (S0Y6.out.below hB)
    have E0Y7 : Hid (EdgeRow Y7 ea0 es) := Lib.hid (E0Y6.out.below hB)
    have PY7 : Hid (Blk Y7 gp 25 [.slice sa0 sl sc0, .slice ea0 el ec0]) := Lib.hid (PY6.out.below hB PY6.out.lt)
    have S1Y7 : Hid (SpotRow Y7 sa1 sp) := Lib.hid (S1Y6.out.below hB)
    have E1Y7 : Hid (EdgeRow Y7 ea1 es) := Lib.hid (E1Y6.out.below hB)
    have QY7 : Hid (Blk Y7 gq 31 [.slice sa1 sl sc1, .slice ea1 el ec1]) := Lib.hid (QY6.out.below hB QY6.out.lt)
    have SyY7 : Hid (SpotRow Y7 say sp) := Lib.hid (SyY6.out.below hB)
    have EyY7 : Hid (EdgeRow Y7 eay (sentL es k node amt)) := Lib.hid (EyY6.out.below hB)
    have YY7 : Hid (Blk Y7 gy 31 [.slice say sl scy, .slice eay el ecy]) := Lib.hid (YY6.out.below hB YY6.out.lt)
    clear BY6 S0Y6 E0Y6 PY6 S1Y6 E1Y6 QY6 SyY6 EyY6 YY6
    clear hB
    have EzY7 : Hid (EdgeRow Y7 eaz (sentL es k node amt)) := Lib.hid (hE)
    clear hE
    have hB : Below Y7.heap.size Y7 (Y7.alloc (.cells #[.slice sa0 sl sc0, .slice eaz el ecz] 25)) := (Below.refl _ _).alloc (Nat.le_refl _) _
    have BY8 : Hid (Below w.heap.size w (Y7.alloc (.cells #[.slice sa0 sl sc0, .slice eaz el ecz] 25))) := Lib.hid (BY7.out.trans (hB.mono BY7.out.size))
    have S0Y8 : Hid (SpotRow (Y7.alloc (.cells #[.slice sa0 sl sc0, .slice eaz el ecz] 25)) sa0 sp) := Lib.hid (S0Y7.out.below hB)
    have E0Y8 : Hid (EdgeRow (Y7.alloc (.cells #[.slice sa0 sl sc0, .slice eaz el ecz] 25)) ea0 es) := Lib.hid (E0Y7.out.below hB)
    have PY8 : Hid (Blk (Y7.alloc (.cells #[.slice sa0 sl sc0, .slice eaz el ecz] 25)) gp 25 [.slice sa0 sl sc0, .slice ea0 el ec0]) := Lib.hid (PY7.out.below hB PY7.out.lt)
    have S1Y8 : Hid (SpotRow (Y7.alloc (.cells #[.slice sa0 sl sc0, .slice eaz el ecz] 25)) sa1 sp) := Lib.hid (S1Y7.out.below hB)
    have E1Y8 : Hid (EdgeRow (Y7.alloc (.cells #[.slice sa0 sl sc0, .slice eaz el ecz] 25)) ea1 es) := Lib.hid (E1Y7.out.below hB)
    have QY8 : Hid (Blk (Y7.alloc (.cells #[.slice sa0 sl sc0, .slice eaz el ecz] 25)) gq 31 [.slice sa1 sl sc1, .slice ea1 el ec1]) := Lib.hid (QY7.out.below hB QY7.out.lt)
    have SyY8 : Hid (SpotRow (Y7.alloc (.cells #[.slice sa0 sl sc0, .slice eaz el ecz] 25)) say sp) := Lib.hid (SyY7.out.below hB)
    have EyY8 : Hid (EdgeRow (Y7.alloc (.cells #[.slice sa0 sl sc0, .slice eaz el ecz] 25)) eay (sentL es k node amt)) := Lib.hid (EyY7.out.below hB)
    have YY8 : Hid (Blk (Y7.alloc (.cells #[.slice sa0 sl sc0, .slice eaz el ecz] 25)) gy 31 [.slice say sl scy, .slice eay el ecy]) := Lib.hid (YY7.out.below hB YY7.out.lt)
    have EzY8 : Hid (EdgeRow (Y7.alloc (.cells #[.slice sa0 sl sc0, .slice eaz el ecz] 25)) eaz (sentL es k node amt)) := Lib.hid (EzY7.out.below hB)
    have ZY8 : Hid (Blk (Y7.alloc (.cells #[.slice sa0 sl sc0, .slice eaz el ecz] 25)) Y7.heap.size 25 [.slice sa0 sl sc0, .slice eaz el ecz]) := Lib.hid (Blk.new _ _ [.slice sa0 sl sc0, .slice eaz el ecz])
    clear hB BY7 S0Y7 E0Y7 PY7 S1Y7 E1Y7 QY7 SyY7 EyY7 YY7 EzY7
    have cQ0 := Blk.cell QY8.out 0
    have cQ1 := Blk.cell QY8.out 1
    simp only [List.getElem?_cons_zero, List.getElem?_cons_succ] at cQ0 cQ1
    go_wp2_with fail
    clear cQ0 cQ1
    generalize (Y7.alloc (.cells #[.slice sa0 sl sc0, .slice eaz el ecz] 25)) = Y8 at BY8 S0Y8 E0Y8 PY8 S1Y8 E1Y8 QY8 SyY8 EyY8 YY8 EzY8 ZY8 ⊢
    generalize Y7.heap.size = gz at ZY8 ⊢
    refine (all_any sa1 sl sc1 ea1 el ec1 es Y8 E1Y8.out HEL.out (by omega) HOK.out).mono ?_
    rintro e Y9 ⟨rfl, hB⟩
    have BY9 : Hid (Below w.heap.size w Y9) := Lib.hid (BY8.out.trans (hB.mono BY8.out.size))
    have S0Y9 : Hid (SpotRow Y9 sa0 sp) := Lib.hid (S0Y8.out.below hB)
    have E0Y9 : Hid (EdgeRow Y9 ea0 es) := Lib.hid (E0Y8.out.below hB)
    have PY9 : Hid (Blk Y9 gp 25 [.slice sa0 sl sc0, .slice ea0 el ec0]) := Lib.hid (PY8.out.below hB PY8.out.lt)
    have S1Y9 : Hid (SpotRow Y9 sa1 sp) := Lib.hid (S1Y8.out.below hB)
    have E1Y9 : Hid (EdgeRow Y9 ea1 es) := Lib.hid (E1Y8.out.below hB)
    have QY9 : Hid (Blk Y9 gq 31 [.slice sa1 sl sc1, .slice ea1 el ec1]) := Lib.hid (QY8.out.below hB QY8.out.lt)
    have SyY9 : Hid (SpotRow Y9 say sp) := Lib.hid (SyY8.out.below hB)
    have EyY9 : Hid (EdgeRow Y9 eay (sentL es k node amt)) := Lib.hid (EyY8.out.below hB)
    have YY9 : Hid (Blk Y9 gy 31 [.slice say sl scy, .slice eay el ecy]) := Lib.hid (YY8.out.below hB YY8.out.lt)
    have EzY9 : Hid (EdgeRow Y9 eaz (sentL es k node amt)) := Lib.hid (EzY8.out.below hB)
    have ZY9 : Hid (Blk Y9 gz 25 [.slice sa0 sl sc0, .slice eaz el ecz]) := Lib.hid (ZY8.out.below hB ZY8.out.lt)
    clear BY8 S0Y8 E0Y8 PY8 S1Y8 E1Y8 QY8 SyY8 EyY8 YY8 EzY8 ZY8
    clear hB
    have cP0 := Blk.cell PY9.out 0
    have cP1 := Blk.cell PY9.out 1
    simp only [List.getElem?_cons_zero, List.getElem?_cons_succ] at cP0 cP1
    go_wp2_with fail
    clear cP0 cP1
    refine (rall_any sa0 sl sc0 ea0 el ec0 es Y9 E0Y9.out HEL.out (by omega) HOK.out).mono ?_
    rintro e Y10 ⟨rfl, hB⟩
    have BY10 : Hid (Below w.heap.size w Y10) := Lib.hid (BY9.out.trans (hB.mono BY9.out.size))
    have S0Y10 : Hid (SpotRow Y10 sa0 sp) := Lib.hid (S0Y9.out.below hB)
    have E0Y10 : Hid (EdgeRow Y10 ea0 es) := Lib.hid (E0Y9.out.below hB)
    have PY10 : Hid (Blk Y10 gp 25 [.slice sa0 sl sc0, .slice ea0 el ec0]) := Lib.hid (PY9.out.below hB PY9.out.lt)
    have S1Y10 : Hid (SpotRow Y10 sa1 sp) := Lib.hid (S1Y9.out.below hB)
    have E1Y10 : Hid (EdgeRow Y10 ea1 es) := Lib.hid (E1Y9.out.below hB)
    have QY10 : Hid (Blk Y10 gq 31 [.slice sa1 sl sc1, .slice ea1 el ec1]) := Lib.hid (QY9.out.below hB QY9.out.lt)
    have SyY10 : Hid (SpotRow Y10 say sp) := Lib.hid (SyY9.out.below hB)
    have EyY10 : Hid (EdgeRow Y10 eay (sentL es k node amt)) := Lib.hid (EyY9.out.below hB)
    have YY10 : Hid (Blk Y10 gy 31 [.slice say sl scy, .slice eay el ecy]) := Lib.hid (YY9.out.below hB YY9.out.lt)
    have EzY10 : Hid (EdgeRow Y10 eaz (sentL es k node amt)) := Lib.hid (EzY9.out.below hB)
    have ZY10 : Hid (Blk Y10 gz 25 [.slice sa0 sl sc0, .slice eaz el ecz]) := Lib.hid (ZY9.out.below hB ZY9.out.lt)
    clear BY9 S0Y9 E0Y9 PY9 S1Y9 E1Y9 QY9 SyY9 EyY9 YY9 EzY9 ZY9
    clear hB
    go_wp2_with fail
    have hBz : Below Y10.heap.size Y10 Y10.drew := below_drewN (Below.refl _ _) 1
    have BX0 : Hid (Below w.heap.size w Y10.drew) := Lib.hid (BY10.out.trans (hBz.mono BY10.out.size))
    have S0X0 : Hid (SpotRow Y10.drew sa0 sp) := Lib.hid (S0Y10.out.below hBz)
    have E0X0 : Hid (EdgeRow Y10.drew ea0 es) := Lib.hid (E0Y10.out.below hBz)
    have PX0 : Hid (Blk Y10.drew gp 25 [.slice sa0 sl sc0, .slice ea0 el ec0]) := Lib.hid (PY10.out.below hBz PY10.out.lt)
    have S1X0 : Hid (SpotRow Y10.drew sa1 sp) := Lib.hid (S1Y10.out.below hBz)
    have E1X0 : Hid (EdgeRow Y10.drew ea1 es) := Lib.hid (E1Y10.out.below hBz)
    have QX0 : Hid (Blk Y10.drew gq 31 [.slice sa1 sl sc1, .slice ea1 el ec1]) := Lib.hid (QY10.out.below hBz QY10.out.lt)
    have SyX0 : Hid (SpotRow Y10.drew say sp) := Lib.hid (SyY10.out.below hBz)
    have EyX0 : Hid (EdgeRow Y10.drew eay (sentL es k node amt)) := Lib.hid (EyY10.out.below hBz)
    have YX0 : Hid (Blk Y10.drew gy 31 [.slice say sl scy, .slice eay el ecy]) := Lib.hid (YY10.out.below hBz YY10.out.lt)
    have EzX0 : Hid (EdgeRow Y10.drew eaz (sentL es k node amt)) := Lib.hid (EzY10.out.below hBz)
    have ZX0 : Hid (Blk Y10.drew gz 25 [.slice sa0 sl sc0, .slice eaz el ecz]) := Lib.hid (ZY10.out.below hBz ZY10.out.lt)
    clear hBz
    refine wp_region_held_drew (S := fun w' => Blk w' gy 31 [.slice say sl scy, .slice eay el ecy] ∧ Blk w' gz 25 [.slice sa0 sl sc0, .slice eaz el ecz] ∧ Blk w' gq 31 [.slice sa1 sl sc1, .slice ea1 el ec1] ∧ Blk w' gp 25 [.slice sa0 sl sc0, .slice ea0 el ec0]) (by kernel_rfl) (⟨YX0.out, ZX0.out, QX0.out, PX0.out⟩) (fun hHeld => ?_)
    generalize Y10.drew = X0 at hHeld BX0 S0X0 E0X0 PX0 S1X0 E1X0 QX0 SyX0 EyX0 YX0 EzX0 ZX0 ⊢
    refine wpAnyH_ready (rs := [0]) (by kernel_rfl) (by simp) ?_
    refine AllReadyH.cons rfl (fun K hK => ?_) AllReadyH.nil
    refine step_call rfl 14 #[] #[] rfl #[] (by simp) (by go_simp) (wawake_any X0) ?_
    rintro e X1 ⟨rfl, hB⟩
    have BX1 : Hid (Below w.heap.size w X1) := Lib.hid (BX0.out.trans (hB.mono BX0.out.size))
    have S0X1 : Hid (SpotRow X1 sa0 sp) := Lib.hid (S0X0.out.below hB)
    have E0X1 : Hid (EdgeRow X1 ea0 es) := Lib.hid (E0X0.out.below hB)
    have PX1 : Hid (Blk X1 gp 25 [.slice sa0 sl sc0, .slice ea0 el ec0]) := Lib.hid (PX0.out.below hB PX0.out.lt)
    have S1X1 : Hid (SpotRow X1 sa1 sp) := Lib.hid (S1X0.out.below hB)
    have E1X1 : Hid (EdgeRow X1 ea1 es) := Lib.hid (E1X0.out.below hB)
    have QX1 : Hid (Blk X1 gq 31 [.slice sa1 sl sc1, .slice ea1 el ec1]) := Lib.hid (QX0.out.below hB QX0.out.lt)
    have SyX1 : Hid (SpotRow X1 say sp) := Lib.hid (SyX0.out.below hB)
    have EyX1 : Hid (EdgeRow X1 eay (sentL es k node amt)) := Lib.hid (EyX0.out.below hB)
    have YX1 : Hid (Blk X1 gy 31 [.slice say sl scy, .slice eay el ecy]) := Lib.hid (YX0.out.below hB YX0.out.lt)
    have EzX1 : Hid (EdgeRow X1 eaz (sentL es k node amt)) := Lib.hid (EzX0.out.below hB)
    have ZX1 : Hid (Blk X1 gz 25 [.slice sa0 sl sc0, .slice eaz el ecz]) := Lib.hid (ZX0.out.below hB ZX0.out.lt)
    clear BX0 S0X0 E0X0 PX0 S1X0 E1X0 QX0 SyX0 EyX0 YX0 EzX0 ZX0 hB
    refine ⟨_, rfl, hK.out _ _ (⟨YX1.out, ZX1.out, QX1.out, PX1.out⟩) (fun hHeld => ?_)⟩
    clear hK K
    show wpAnyH _ _ _ _ _ _ _ (Act.put _ (some 50) _) _
    simp only [Act.put, List.setIfInBounds_toArray, List.set_cons_zero, List.set_cons_succ]
    refine wpAnyH_take (i := 1) (v := .bool true) rfl (by kernel_rfl) (by kernel_rfl) (by kernel_rfl) (fun _ _ _ h => h) (Or.inl ⟨by rfl, fun w _ => by rfl⟩) hHeld ?_
    show wpAnyH _ _ _ _ _ _ _ (Act.put _ (some 51) _) _
    simp only [Act.put, List.setIfInBounds_toArray, List.set_cons_zero, List.set_cons_succ]
    refine wpAnyH_take (i := 2) (v := .int .i64 0) rfl (by kernel_rfl) (by kernel_rfl) (by kernel_rfl) (fun _ _ _ h => h) (Or.inl ⟨by rfl, fun w _ => by rfl⟩) hHeld ?_
    show wpAnyH _ _ _ _ _ _ _ (Act.put _ (some 52) _) _
    simp only [Act.put, List.setIfInBounds_toArray, List.set_cons_zero, List.set_cons_succ]
    refine wpAnyH_take (i := 3) (v := .int .i64 0) rfl (by kernel_rfl) (by kernel_rfl) (by kernel_rfl) (fun _ _ _ h => h) (Or.inl ⟨by rfl, fun w _ => by rfl⟩) hHeld ?_
    show wpAnyH _ _ _ _ _ _ _ (Act.put _ (some 53) _) _
    simp only [Act.put, List.setIfInBounds_toArray, List.set_cons_zero, List.set_cons_succ]
    refine wpAnyH_take (i := 4) (v := .bool true) rfl (by kernel_rfl) (by kernel_rfl) (by kernel_rfl) (fun _ _ _ h => h) (Or.inl ⟨by rfl, by intro w' h; go_simp⟩) hHeld ?_
    show wpAnyH _ _ _ _ _ _ _ (Act.put _ (some 54) _) _
    simp only [Act.put, List.setIfInBounds_toArray, List.set_cons_zero, List.set_cons_succ]
    refine wpAnyH_take (i := 5) (v := .bool true) rfl (by kernel_rfl) (by kernel_rfl) (by kernel_rfl) (fun _ _ _ h => h) (Or.inl ⟨by rfl, by intro w hSw; first | rfl | go_simp⟩) hHeld ?_
    show wpAnyH _ _ _ _ _ _ _ (Act.put _ (some 55) _) _
    simp only [Act.put, List.setIfInBounds_toArray, List.set_cons_zero, List.set_cons_succ]
    refine wpAnyH_take (i := 6) (v := .bool true) rfl (by kernel_rfl) (by kernel_rfl) (by kernel_rfl) (fun _ _ _ h => h) (Or.inl ⟨by rfl, fun w _ => by rfl⟩) hHeld ?_
    show wpAnyH _ _ _ _ _ _ _ (Act.put _ (some 56) _) _
    simp only [Act.put, List.setIfInBounds_toArray, List.set_cons_zero, List.set_cons_succ]
    refine wpAnyH_take (i := 7) (v := .agg #[.slice say sl scy, .slice eay el ecy]) rfl (by kernel_rfl) (by kernel_rfl) (by kernel_rfl) (fun _ _ _ h => h) (Or.inl ⟨by rfl, by intro w' h; have k0 := Blk.cell h.1 0; have k1 := Blk.cell h.1 1; simp only [List.getElem?_cons_zero, List.getElem?_cons_succ] at k0 k1; go_simp⟩) hHeld ?_
    show wpAnyH _ _ _ _ _ _ _ (Act.put _ (some 57) _) _
    simp only [Act.put, List.setIfInBounds_toArray, List.set_cons_zero, List.set_cons_succ]
    refine wpAnyH_take (i := 9) (v := .agg #[.slice sa0 sl sc0, .slice eaz el ecz]) rfl (by kernel_rfl) (by kernel_rfl) (by kernel_rfl) (fun _ _ _ h => h) (Or.inl ⟨by rfl, by intro w' h; have k0 := Blk.cell h.2.1 0; have k1 := Blk.cell h.2.1 1; simp only [List.getElem?_cons_zero, List.getElem?_cons_succ] at k0 k1; go_simp⟩) hHeld ?_
    show wpAnyH _ _ _ _ _ _ _ (Act.put _ (some 59) _) _
    simp only [Act.put, List.setIfInBounds_toArray, List.set_cons_zero, List.set_cons_succ]
    refine wpAnyH_ready (rs := [8]) (by kernel_rfl) (by simp) ?_
    refine AllReadyH.cons rfl (fun K hK => ?_) AllReadyH.nil
    refine step_call rfl 32 #[.tmp 57] #[31] rfl #[.agg #[.slice say sl scy, .slice eay el ecy]] (by simp [Act.eval]) (by go_simp) (wfrom_any say sl scy eay el ecy sp (sentL es k node amt) X1 SyX1.out EyX1.out HSL.out HLN.out hs20 he30) ?_
    rintro e X2 ⟨sa5, sc5, ea5, ec5, rfl, hS, hE, hB⟩
    have BX2 : Hid (Below w.heap.size w X2) := Lib.hid (BX1.out.trans (hB.mono BX1.out.size))
    have S0X2 : Hid (SpotRow X2 sa0 sp) := Lib.hid (S0X1.out.below hB)
    have E0X2 : Hid (EdgeRow X2 ea0 es) := Lib.hid (E0X1.out.below hB)
    have PX2 : Hid (Blk X2 gp 25 [.slice sa0 sl sc0, .slice ea0 el ec0]) := Lib.hid (PX1.out.below hB PX1.out.lt)
    have S1X2 : Hid (SpotRow X2 sa1 sp) := Lib.hid (S1X1.out.below hB)
    have E1X2 : Hid (EdgeRow X2 ea1 es) := Lib.hid (E1X1.out.below hB)
    have QX2 : Hid (Blk X2 gq 31 [.slice sa1 sl sc1, .slice ea1 el ec1]) := Lib.hid (QX1.out.below hB QX1.out.lt)
    have SyX2 : Hid (SpotRow X2 say sp) := Lib.hid (SyX1.out.below hB)
    have EyX2 : Hid (EdgeRow X2 eay (sentL es k node amt)) := Lib.hid (EyX1.out.below hB)
    have YX2 : Hid (Blk X2 gy 31 [.slice say sl scy, .slice eay el ecy]) := Lib.hid (YX1.out.below hB YX1.out.lt)
    have EzX2 : Hid (EdgeRow X2 eaz (sentL es k node amt)) := Lib.hid (EzX1.out.below hB)
    have ZX2 : Hid (Blk X2 gz 25 [.slice sa0 sl sc0, .slice eaz el ecz]) := Lib.hid (ZX1.out.below hB ZX1.out.lt)
    have S5X2 : Hid (SpotRow X2 sa5 sp) := Lib.hid (hS)
    have E5X2 : Hid (EdgeRow X2 ea5 (sentL es k node amt)) := Lib.hid (hE)
    clear BX1 S0X1 E0X1 PX1 S1X1 E1X1 QX1 SyX1 EyX1 YX1 EzX1 ZX1 hB hS hE
    refine ⟨_, rfl, hK.out _ _ (⟨YX2.out, ZX2.out, QX2.out, PX2.out⟩) (fun hHeld => ?_)⟩
    clear hK K
    show wpAnyH _ _ _ _ _ _ _ (Act.put _ (some 58) _) _
    simp only [Act.put, List.setIfInBounds_toArray, List.set_cons_zero, List.set_cons_succ]
    refine wpAnyH_ready (rs := [10]) (by kernel_rfl) (by simp) ?_
    refine AllReadyH.cons rfl (fun K hK => ?_) AllReadyH.nil
    refine step_call rfl 31 #[.tmp 58, .tmp 59] #[25, 25] rfl #[.agg #[.slice sa5 sl sc5, .slice ea5 el ec5], .agg #[.slice sa0 sl sc0, .slice eaz el ecz]] (by simp [Act.eval]) (by go_simp) (wsame_any sa5 sl sc5 ea5 el ec5 sa0 sc0 eaz ecz sp (sentL es k node amt) X2 S5X2.out E5X2.out S0X2.out EzX2.out HSL.out HLN.out hs20 he30) ?_
    rintro e X3 ⟨rfl, hB⟩
    have BX3 : Hid (Below w.heap.size w X3) := Lib.hid (BX2.out.trans (hB.mono BX2.out.size))
    have S0X3 : Hid (SpotRow X3 sa0 sp) := Lib.hid (S0X2.out.below hB)
    have E0X3 : Hid (EdgeRow X3 ea0 es) := Lib.hid (E0X2.out.below hB)
    have PX3 : Hid (Blk X3 gp 25 [.slice sa0 sl sc0, .slice ea0 el ec0]) := Lib.hid (PX2.out.below hB PX2.out.lt)
    have S1X3 : Hid (SpotRow X3 sa1 sp) := Lib.hid (S1X2.out.below hB)
    have E1X3 : Hid (EdgeRow X3 ea1 es) := Lib.hid (E1X2.out.below hB)
    have QX3 : Hid (Blk X3 gq 31 [.slice sa1 sl sc1, .slice ea1 el ec1]) := Lib.hid (QX2.out.below hB QX2.out.lt)
    have SyX3 : Hid (SpotRow X3 say sp) := Lib.hid (SyX2.out.below hB)
    have EyX3 : Hid (EdgeRow X3 eay (sentL es k node amt)) := Lib.hid (EyX2.out.below hB)
    have YX3 : Hid (Blk X3 gy 31 [.slice say sl scy, .slice eay el ecy]) := Lib.hid (YX2.out.below hB YX2.out.lt)
    have EzX3 : Hid (EdgeRow X3 eaz (sentL es k node amt)) := Lib.hid (EzX2.out.below hB)
    have ZX3 : Hid (Blk X3 gz 25 [.slice sa0 sl sc0, .slice eaz el ecz]) := Lib.hid (ZX2.out.below hB ZX2.out.lt)
    have S5X3 : Hid (SpotRow X3 sa5 sp) := Lib.hid (S5X2.out.below hB)
    have E5X3 : Hid (EdgeRow X3 ea5 (sentL es k node amt)) := Lib.hid (E5X2.out.below hB)
    clear BX2 S0X2 E0X2 PX2 S1X2 E1X2 QX2 SyX2 EyX2 YX2 EzX2 ZX2 S5X2 E5X2 hB
    refine ⟨_, rfl, hK.out _ _ (⟨YX3.out, ZX3.out, QX3.out, PX3.out⟩) (fun hHeld => ?_)⟩
    clear hK K
    show wpAnyH _ _ _ _ _ _ _ (Act.put _ (some 60) _) _
    simp only [Act.put, List.setIfInBounds_toArray, List.set_cons_zero, List.set_cons_succ]
    refine wpAnyH_take (i := 11) (v := .bool true) rfl (by kernel_rfl) (by kernel_rfl) (by kernel_rfl) (fun _ _ _ h => h) (Or.inl ⟨by rfl, by intro w hSw; first | rfl | go_simp⟩) hHeld ?_
    show wpAnyH _ _ _ _ _ _ _ (Act.put _ (some 61) _) _
    simp only [Act.put, List.setIfInBounds_toArray, List.set_cons_zero, List.set_cons_succ]
    refine wpAnyH_take (i := 12) (v := .bool true) rfl (by kernel_rfl) (by kernel_rfl) (by kernel_rfl) (fun _ _ _ h => h) (Or.inl ⟨by rfl, fun w _ => by rfl⟩) hHeld ?_
    show wpAnyH _ _ _ _ _ _ _ (Act.put _ (some 62) _) _
    simp only [Act.put, List.setIfInBounds_toArray, List.set_cons_zero, List.set_cons_succ]
    refine wpAnyH_take (i := 13) (v := .int .u64 (allV es)) rfl (by kernel_rfl) (by kernel_rfl) (by kernel_rfl) (fun _ _ _ h => h) (Or.inl ⟨by rfl, fun w _ => by rfl⟩) hHeld ?_
    show wpAnyH _ _ _ _ _ _ _ (Act.put _ (some 63) _) _
    simp only [Act.put, List.setIfInBounds_toArray, List.set_cons_zero, List.set_cons_succ]
    refine wpAnyH_take (i := 14) (v := .int .u64 (allV es)) rfl (by kernel_rfl) (by kernel_rfl) (by kernel_rfl) (fun _ _ _ h => h) (Or.inl ⟨by rfl, fun w _ => by rfl⟩) hHeld ?_
    show wpAnyH _ _ _ _ _ _ _ (Act.put _ (some 64) _) _
    simp only [Act.put, List.setIfInBounds_toArray, List.set_cons_zero, List.set_cons_succ]
    refine wpAnyH_take (i := 15) (v := .bool true) rfl (by kernel_rfl) (by kernel_rfl) (by kernel_rfl) (fun _ _ _ h => h) (Or.inl ⟨by rfl, by intro w' h; go_simp⟩) hHeld ?_
    show wpAnyH _ _ _ _ _ _ _ (Act.put _ (some 65) _) _
    simp only [Act.put, List.setIfInBounds_toArray, List.set_cons_zero, List.set_cons_succ]
    refine wpAnyH_take (i := 16) (v := .bool true) rfl (by kernel_rfl) (by kernel_rfl) (by kernel_rfl) (fun _ _ _ h => h) (Or.inl ⟨by rfl, by intro w hSw; first | rfl | go_simp⟩) hHeld ?_
    show wpAnyH _ _ _ _ _ _ _ (Act.put _ (some 66) _) _
    simp only [Act.put, List.setIfInBounds_toArray, List.set_cons_zero, List.set_cons_succ]
    refine wpAnyH_take (i := 17) (v := .bool true) rfl (by kernel_rfl) (by kernel_rfl) (by kernel_rfl) (fun _ _ _ h => h) (Or.inl ⟨by rfl, fun w _ => by rfl⟩) hHeld ?_
    show wpAnyH _ _ _ _ _ _ _ (Act.put _ (some 67) _) _
    simp only [Act.put, List.setIfInBounds_toArray, List.set_cons_zero, List.set_cons_succ]
    refine wpAnyH_take (i := 18) (v := .int .i64 (allE es)) rfl (by kernel_rfl) (by kernel_rfl) (by kernel_rfl) (fun _ _ _ h => h) (Or.inl ⟨by rfl, fun w _ => by rfl⟩) hHeld ?_
    show wpAnyH _ _ _ _ _ _ _ (Act.put _ (some 68) _) _
    simp only [Act.put, List.setIfInBounds_toArray, List.set_cons_zero, List.set_cons_succ]
    refine wpAnyH_take (i := 19) (v := .int .i64 (allE es)) rfl (by kernel_rfl) (by kernel_rfl) (by kernel_rfl) (fun _ _ _ h => h) (Or.inl ⟨by rfl, fun w _ => by rfl⟩) hHeld ?_
    show wpAnyH _ _ _ _ _ _ _ (Act.put _ (some 69) _) _
    simp only [Act.put, List.setIfInBounds_toArray, List.set_cons_zero, List.set_cons_succ]
    refine wpAnyH_take (i := 20) (v := .bool true) rfl (by kernel_rfl) (by kernel_rfl) (by kernel_rfl) (fun _ _ _ h => h) (Or.inl ⟨by rfl, by intro w' h; go_simp⟩) hHeld ?_
    show wpAnyH _ _ _ _ _ _ _ (Act.put _ (some 70) _) _
    simp only [Act.put, List.setIfInBounds_toArray, List.set_cons_zero, List.set_cons_succ]
    refine wpAnyH_take (i := 21) (v := .bool true) rfl (by kernel_rfl) (by kernel_rfl) (by kernel_rfl) (fun _ _ _ h => h) (Or.inl ⟨by rfl, by intro w hSw; first | rfl | go_simp⟩) hHeld ?_
    show wpAnyH _ _ _ _ _ _ _ (Act.put _ (some 71) _) _
    simp only [Act.put, List.setIfInBounds_toArray, List.set_cons_zero, List.set_cons_succ]
    refine wpAnyH_take (i := 22) (v := .bool true) rfl (by kernel_rfl) (by kernel_rfl) (by kernel_rfl) (fun _ _ _ h => h) (Or.inl ⟨by rfl, fun w _ => by rfl⟩) hHeld ?_
    show wpAnyH _ _ _ _ _ _ _ (Act.put _ (some 72) _) _
    simp only [Act.put, List.setIfInBounds_toArray, List.set_cons_zero, List.set_cons_succ]
    refine wpAnyH_take (i := 23) (v := .agg #[.slice sa1 sl sc1, .slice ea1 el ec1]) rfl (by kernel_rfl) (by kernel_rfl) (by kernel_rfl) (fun _ _ _ h => h) (Or.inl ⟨by rfl, by intro w' h; have k0 := Blk.cell h.2.2.1 0; have k1 := Blk.cell h.2.2.1 1; simp only [List.getElem?_cons_zero, List.getElem?_cons_succ] at k0 k1; go_simp⟩) hHeld ?_
    show wpAnyH _ _ _ _ _ _ _ (Act.put _ (some 73) _) _
    simp only [Act.put, List.setIfInBounds_toArray, List.set_cons_zero, List.set_cons_succ]
    refine wpAnyH_take (i := 25) (v := .agg #[.slice sa0 sl sc0, .slice ea0 el ec0]) rfl (by kernel_rfl) (by kernel_rfl) (by kernel_rfl) (fun _ _ _ h => h) (Or.inl ⟨by rfl, by intro w' h; have k0 := Blk.cell h.2.2.2 0; have k1 := Blk.cell h.2.2.2 1; simp only [List.getElem?_cons_zero, List.getElem?_cons_succ] at k0 k1; go_simp⟩) hHeld ?_
    show wpAnyH _ _ _ _ _ _ _ (Act.put _ (some 75) _) _
    simp only [Act.put, List.setIfInBounds_toArray, List.set_cons_zero, List.set_cons_succ]
    refine wpAnyH_ready (rs := [24]) (by kernel_rfl) (by simp) ?_
    refine AllReadyH.cons rfl (fun K hK => ?_) AllReadyH.nil
    refine step_call rfl 32 #[.tmp 73] #[31] rfl #[.agg #[.slice sa1 sl sc1, .slice ea1 el ec1]] (by simp [Act.eval]) (by go_simp) (wfrom_any sa1 sl sc1 ea1 el ec1 sp es X3 S1X3.out E1X3.out HSL.out HEL.out hs20 he30) ?_
    rintro e X4 ⟨sa6, sc6, ea6, ec6, rfl, hS, hE, hB⟩
    have BX4 : Hid (Below w.heap.size w X4) := Lib.hid (BX3.out.trans (hB.mono BX3.out.size))
    have S0X4 : Hid (SpotRow X4 sa0 sp) := Lib.hid (S0X3.out.below hB)
    have E0X4 : Hid (EdgeRow X4 ea0 es) := Lib.hid (E0X3.out.below hB)
    have PX4 : Hid (Blk X4 gp 25 [.slice sa0 sl sc0, .slice ea0 el ec0]) := Lib.hid (PX3.out.below hB PX3.out.lt)
    have S1X4 : Hid (SpotRow X4 sa1 sp) := Lib.hid (S1X3.out.below hB)
    have E1X4 : Hid (EdgeRow X4 ea1 es) := Lib.hid (E1X3.out.below hB)
    have QX4 : Hid (Blk X4 gq 31 [.slice sa1 sl sc1, .slice ea1 el ec1]) := Lib.hid (QX3.out.below hB QX3.out.lt)
    have SyX4 : Hid (SpotRow X4 say sp) := Lib.hid (SyX3.out.below hB)
    have EyX4 : Hid (EdgeRow X4 eay (sentL es k node amt)) := Lib.hid (EyX3.out.below hB)
    have YX4 : Hid (Blk X4 gy 31 [.slice say sl scy, .slice eay el ecy]) := Lib.hid (YX3.out.below hB YX3.out.lt)
    have EzX4 : Hid (EdgeRow X4 eaz (sentL es k node amt)) := Lib.hid (EzX3.out.below hB)
    have ZX4 : Hid (Blk X4 gz 25 [.slice sa0 sl sc0, .slice eaz el ecz]) := Lib.hid (ZX3.out.below hB ZX3.out.lt)
    have S5X4 : Hid (SpotRow X4 sa5 sp) := Lib.hid (S5X3.out.below hB)
    have E5X4 : Hid (EdgeRow X4 ea5 (sentL es k node amt)) := Lib.hid (E5X3.out.below hB)
    have S6X4 : Hid (SpotRow X4 sa6 sp) := Lib.hid (hS)
    have E6X4 : Hid (EdgeRow X4 ea6 es) := Lib.hid (hE)
    clear BX3 S0X3 E0X3 PX3 S1X3 E1X3 QX3 SyX3 EyX3 YX3 EzX3 ZX3 S5X3 E5X3 hB hS hE
    refine ⟨_, rfl, hK.out _ _ (⟨YX4.out, ZX4.out, QX4.out, PX4.out⟩) (fun hHeld => ?_)⟩
    clear hK K
    show wpAnyH _ _ _ _ _ _ _ (Act.put _ (some 74) _) _
    simp only [Act.put, List.setIfInBounds_toArray, List.set_cons_zero, List.set_cons_succ]
    refine wpAnyH_ready (rs := [26]) (by kernel_rfl) (by simp) ?_
    refine AllReadyH.cons rfl (fun K hK => ?_) AllReadyH.nil
    refine step_call rfl 31 #[.tmp 74, .tmp 75] #[25, 25] rfl #[.agg #[.slice sa6 sl sc6, .slice ea6 el ec6], .agg #[.slice sa0 sl sc0, .slice ea0 el ec0]] (by simp [Act.eval]) (by go_simp) (wsame_any sa6 sl sc6 ea6 el ec6 sa0 sc0 ea0 ec0 sp es X4 S6X4.out E6X4.out S0X4.out E0X4.out HSL.out HEL.out hs20 he30) ?_
    rintro e X5 ⟨rfl, hB⟩
    have BX5 : Hid (Below w.heap.size w X5) := Lib.hid (BX4.out.trans (hB.mono BX4.out.size))
    have S0X5 : Hid (SpotRow X5 sa0 sp) := Lib.hid (S0X4.out.below hB)
    have E0X5 : Hid (EdgeRow X5 ea0 es) := Lib.hid (E0X4.out.below hB)
    have PX5 : Hid (Blk X5 gp 25 [.slice sa0 sl sc0, .slice ea0 el ec0]) := Lib.hid (PX4.out.below hB PX4.out.lt)
    have S1X5 : Hid (SpotRow X5 sa1 sp) := Lib.hid (S1X4.out.below hB)
    have E1X5 : Hid (EdgeRow X5 ea1 es) := Lib.hid (E1X4.out.below hB)
    have QX5 : Hid (Blk X5 gq 31 [.slice sa1 sl sc1, .slice ea1 el ec1]) := Lib.hid (QX4.out.below hB QX4.out.lt)
    have SyX5 : Hid (SpotRow X5 say sp) := Lib.hid (SyX4.out.below hB)
    have EyX5 : Hid (EdgeRow X5 eay (sentL es k node amt)) := Lib.hid (EyX4.out.below hB)
    have YX5 : Hid (Blk X5 gy 31 [.slice say sl scy, .slice eay el ecy]) := Lib.hid (YX4.out.below hB YX4.out.lt)
    have EzX5 : Hid (EdgeRow X5 eaz (sentL es k node amt)) := Lib.hid (EzX4.out.below hB)
    have ZX5 : Hid (Blk X5 gz 25 [.slice sa0 sl sc0, .slice eaz el ecz]) := Lib.hid (ZX4.out.below hB ZX4.out.lt)
    have S5X5 : Hid (SpotRow X5 sa5 sp) := Lib.hid (S5X4.out.below hB)
    have E5X5 : Hid (EdgeRow X5 ea5 (sentL es k node amt)) := Lib.hid (E5X4.out.below hB)
    have S6X5 : Hid (SpotRow X5 sa6 sp) := Lib.hid (S6X4.out.below hB)
    have E6X5 : Hid (EdgeRow X5 ea6 es) := Lib.hid (E6X4.out.below hB)
    clear BX4 S0X4 E0X4 PX4 S1X4 E1X4 QX4 SyX4 EyX4 YX4 EzX4 ZX4 S5X4 E5X4 S6X4 E6X4 hB
    refine ⟨_, rfl, hK.out _ _ (⟨YX5.out, ZX5.out, QX5.out, PX5.out⟩) (fun hHeld => ?_)⟩
    clear hK K
    show wpAnyH _ _ _ _ _ _ _ (Act.put _ (some 76) _) _
    simp only [Act.put, List.setIfInBounds_toArray, List.set_cons_zero, List.set_cons_succ]
    refine wpAnyH_take (i := 27) (v := .bool true) rfl (by kernel_rfl) (by kernel_rfl) (by kernel_rfl) (fun _ _ _ h => h) (Or.inl ⟨by rfl, by intro w hSw; first | rfl | go_simp⟩) hHeld ?_
    show wpAnyH _ _ _ _ _ _ _ (Act.put _ (some 77) _) _
    simp only [Act.put, List.setIfInBounds_toArray, List.set_cons_zero, List.set_cons_succ]
    refine wpAnyH_take (i := 28) (v := .bool true) rfl (by kernel_rfl) (by kernel_rfl) (by kernel_rfl) (fun _ _ _ h => h) (Or.inl ⟨by rfl, fun w _ => by rfl⟩) hHeld ?_
    show wpAnyH _ _ _ _ _ _ _ (Act.put _ (some 8) _) _
    simp only [Act.put, List.setIfInBounds_toArray, List.set_cons_zero, List.set_cons_succ]
    refine wpAnyH_done (by kernel_rfl) ?_ _
    go_wp2
    go_ret
    exact ⟨rfl, BX5.out⟩
  · refine (HSE.out).mono ?_
    rintro e Y5 ⟨v, rfl, hB, _, hv⟩
    obtain rfl := hv h0
    have BY5 : Hid (Below w.heap.size w Y5) := Lib.hid (BY4.out.trans (hB.mono BY4.out.size))
    have S0Y5 : Hid (SpotRow Y5 sa0 sp) := Lib.hid (S0Y4.out.below hB)
    have E0Y5 : Hid (EdgeRow Y5 ea0 es) := Lib.hid (E0Y4.out.below hB)
    have PY5 : Hid (Blk Y5 gp 25 [.slice sa0 sl sc0, .slice ea0 el ec0]) := Lib.hid (PY4.out.below hB PY4.out.lt)
    have S1Y5 : Hid (SpotRow Y5 sa1 sp) := Lib.hid (S1Y4.out.below hB)
    have E1Y5 : Hid (EdgeRow Y5 ea1 es) := Lib.hid (E1Y4.out.below hB)
    have QY5 : Hid (Blk Y5 gq 31 [.slice sa1 sl sc1, .slice ea1 el ec1]) := Lib.hid (QY4.out.below hB QY4.out.lt)
    clear BY4 S0Y4 E0Y4 PY4 S1Y4 E1Y4 QY4
    clear hB
    have H0 : Hid (sentErr sl es edge node amt ≠ 0) := Lib.hid (by rw [← HSL.out]; exact h0)
    rw [HSL.out]
    unfold noWeb
    clear hv h0 HSE HW
    have hB : Below Y5.heap.size Y5 (Y5.alloc (.cells #[.slice none 0 0, .slice none 0 0] 31)) := (Below.refl _ _).alloc (Nat.le_refl _) _
    have BY6 : Hid (Below w.heap.size w (Y5.alloc (.cells #[.slice none 0 0, .slice none 0 0] 31))) := Lib.hid (BY5.out.trans (hB.mono BY5.out.size))
    have S0Y6 : Hid (SpotRow (Y5.alloc (.cells #[.slice none 0 0, .slice none 0 0] 31)) sa0 sp) := Lib.hid (S0Y5.out.below hB)
    have E0Y6 : Hid (EdgeRow (Y5.alloc (.cells #[.slice none 0 0, .slice none 0 0] 31)) ea0 es) := Lib.hid (E0Y5.out.below hB)
    have PY6 : Hid (Blk (Y5.alloc (.cells #[.slice none 0 0, .slice none 0 0] 31)) gp 25 [.slice sa0 sl sc0, .slice ea0 el ec0]) := Lib.hid (PY5.out.below hB PY5.out.lt)
    have S1Y6 : Hid (SpotRow (Y5.alloc (.cells #[.slice none 0 0, .slice none 0 0] 31)) sa1 sp) := Lib.hid (S1Y5.out.below hB)
    have E1Y6 : Hid (EdgeRow (Y5.alloc (.cells #[.slice none 0 0, .slice none 0 0] 31)) ea1 es) := Lib.hid (E1Y5.out.below hB)
    have QY6 : Hid (Blk (Y5.alloc (.cells #[.slice none 0 0, .slice none 0 0] 31)) gq 31 [.slice sa1 sl sc1, .slice ea1 el ec1]) := Lib.hid (QY5.out.below hB QY5.out.lt)
    have YY6 : Hid (Blk (Y5.alloc (.cells #[.slice none 0 0, .slice none 0 0] 31)) Y5.heap.size 31 [.slice none 0 0, .slice none 0 0]) := Lib.hid (Blk.new _ _ [.slice none 0 0, .slice none 0 0])
    clear hB BY5 S0Y5 E0Y5 PY5 S1Y5 E1Y5 QY5
    have cP0 := Blk.cell PY6.out 0
    have cP1 := Blk.cell PY6.out 1
    simp only [List.getElem?_cons_zero, List.getElem?_cons_succ] at cP0 cP1
    go_wp2_with fail
    clear cP0 cP1
    generalize (Y5.alloc (.cells #[.slice none 0 0, .slice none 0 0] 31)) = Y6 at BY6 S0Y6 E0Y6 PY6 S1Y6 E1Y6 QY6 YY6 ⊢
    generalize Y5.heap.size = gy at YY6 ⊢
    refine (rsent_any sa0 sl sc0 ea0 el ec0 es edge node amt Y6 E0Y6.out HEL.out (by omega) (by omega) HOK.out HAM.out).mono ?_
    rintro e Y7 ⟨hB, hv⟩
    obtain ⟨hn, _⟩ | ⟨_, rfl⟩ := hv
    · exact absurd hn H0.out
    have BY7 : Hid (Below w.heap.size w Y7) := Lib.hid (BY6.out.trans (hB.mono BY6.out.size))
    have S0Y7 : Hid (SpotRow Y7 sa0 sp) := Lib.hid (S0Y6.out.below hB)
    have E0Y7 : Hid (EdgeRow Y7 ea0 es) := Lib.hid (E0Y6.out.below hB)
    have PY7 : Hid (Blk Y7 gp 25 [.slice sa0 sl sc0, .slice ea0 el ec0]) := Lib.hid (PY6.out.below hB PY6.out.lt)
    have S1Y7 : Hid (SpotRow Y7 sa1 sp) := Lib.hid (S1Y6.out.below hB)
    have E1Y7 : Hid (EdgeRow Y7 ea1 es) := Lib.hid (E1Y6.out.below hB)
    have QY7 : Hid (Blk Y7 gq 31 [.slice sa1 sl sc1, .slice ea1 el ec1]) := Lib.hid (QY6.out.below hB QY6.out.lt)
    have YY7 : Hid (Blk Y7 gy 31 [.slice none 0 0, .slice none 0 0]) := Lib.hid (YY6.out.below hB YY6.out.lt)
    clear BY6 S0Y6 E0Y6 PY6 S1Y6 E1Y6 QY6 YY6
    clear hB
    have hB : Below Y7.heap.size Y7 (Y7.alloc (.cells #[.slice none 0 0, .slice none 0 0] 25)) := (Below.refl _ _).alloc (Nat.le_refl _) _
    have BY8 : Hid (Below w.heap.size w (Y7.alloc (.cells #[.slice none 0 0, .slice none 0 0] 25))) := Lib.hid (BY7.out.trans (hB.mono BY7.out.size))
    have S0Y8 : Hid (SpotRow (Y7.alloc (.cells #[.slice none 0 0, .slice none 0 0] 25)) sa0 sp) := Lib.hid (S0Y7.out.below hB)
    have E0Y8 : Hid (EdgeRow (Y7.alloc (.cells #[.slice none 0 0, .slice none 0 0] 25)) ea0 es) := Lib.hid (E0Y7.out.below hB)
    have PY8 : Hid (Blk (Y7.alloc (.cells #[.slice none 0 0, .slice none 0 0] 25)) gp 25 [.slice sa0 sl sc0, .slice ea0 el ec0]) := Lib.hid (PY7.out.below hB PY7.out.lt)
    have S1Y8 : Hid (SpotRow (Y7.alloc (.cells #[.slice none 0 0, .slice none 0 0] 25)) sa1 sp) := Lib.hid (S1Y7.out.below hB)
    have E1Y8 : Hid (EdgeRow (Y7.alloc (.cells #[.slice none 0 0, .slice none 0 0] 25)) ea1 es) := Lib.hid (E1Y7.out.below hB)
    have QY8 : Hid (Blk (Y7.alloc (.cells #[.slice none 0 0, .slice none 0 0] 25)) gq 31 [.slice sa1 sl sc1, .slice ea1 el ec1]) := Lib.hid (QY7.out.below hB QY7.out.lt)
    have YY8 : Hid (Blk (Y7.alloc (.cells #[.slice none 0 0, .slice none 0 0] 25)) gy 31 [.slice none 0 0, .slice none 0 0]) := Lib.hid (YY7.out.below hB YY7.out.lt)
    have ZY8 : Hid (Blk (Y7.alloc (.cells #[.slice none 0 0, .slice none 0 0] 25)) Y7.heap.size 25 [.slice none 0 0, .slice none 0 0]) := Lib.hid (Blk.new _ _ [.slice none 0 0, .slice none 0 0])
    clear hB BY7 S0Y7 E0Y7 PY7 S1Y7 E1Y7 QY7 YY7
    have cQ0 := Blk.cell QY8.out 0
    have cQ1 := Blk.cell QY8.out 1
    simp only [List.getElem?_cons_zero, List.getElem?_cons_succ] at cQ0 cQ1
    go_wp2_with fail
    clear cQ0 cQ1
    generalize (Y7.alloc (.cells #[.slice none 0 0, .slice none 0 0] 25)) = Y8 at BY8 S0Y8 E0Y8 PY8 S1Y8 E1Y8 QY8 YY8 ZY8 ⊢
    generalize Y7.heap.size = gz at ZY8 ⊢
    refine (all_any sa1 sl sc1 ea1 el ec1 es Y8 E1Y8.out HEL.out (by omega) HOK.out).mono ?_
    rintro e Y9 ⟨rfl, hB⟩
    have BY9 : Hid (Below w.heap.size w Y9) := Lib.hid (BY8.out.trans (hB.mono BY8.out.size))
    have S0Y9 : Hid (SpotRow Y9 sa0 sp) := Lib.hid (S0Y8.out.below hB)
    have E0Y9 : Hid (EdgeRow Y9 ea0 es) := Lib.hid (E0Y8.out.below hB)
    have PY9 : Hid (Blk Y9 gp 25 [.slice sa0 sl sc0, .slice ea0 el ec0]) := Lib.hid (PY8.out.below hB PY8.out.lt)
    have S1Y9 : Hid (SpotRow Y9 sa1 sp) := Lib.hid (S1Y8.out.below hB)
    have E1Y9 : Hid (EdgeRow Y9 ea1 es) := Lib.hid (E1Y8.out.below hB)
    have QY9 : Hid (Blk Y9 gq 31 [.slice sa1 sl sc1, .slice ea1 el ec1]) := Lib.hid (QY8.out.below hB QY8.out.lt)
    have YY9 : Hid (Blk Y9 gy 31 [.slice none 0 0, .slice none 0 0]) := Lib.hid (YY8.out.below hB YY8.out.lt)
    have ZY9 : Hid (Blk Y9 gz 25 [.slice none 0 0, .slice none 0 0]) := Lib.hid (ZY8.out.below hB ZY8.out.lt)
    clear BY8 S0Y8 E0Y8 PY8 S1Y8 E1Y8 QY8 YY8 ZY8
    clear hB
    have cP0 := Blk.cell PY9.out 0
    have cP1 := Blk.cell PY9.out 1
    simp only [List.getElem?_cons_zero, List.getElem?_cons_succ] at cP0 cP1
    go_wp2_with fail
    clear cP0 cP1
    refine (rall_any sa0 sl sc0 ea0 el ec0 es Y9 E0Y9.out HEL.out (by omega) HOK.out).mono ?_
    rintro e Y10 ⟨rfl, hB⟩
    have BY10 : Hid (Below w.heap.size w Y10) := Lib.hid (BY9.out.trans (hB.mono BY9.out.size))
    have S0Y10 : Hid (SpotRow Y10 sa0 sp) := Lib.hid (S0Y9.out.below hB)
    have E0Y10 : Hid (EdgeRow Y10 ea0 es) := Lib.hid (E0Y9.out.below hB)
    have PY10 : Hid (Blk Y10 gp 25 [.slice sa0 sl sc0, .slice ea0 el ec0]) := Lib.hid (PY9.out.below hB PY9.out.lt)
    have S1Y10 : Hid (SpotRow Y10 sa1 sp) := Lib.hid (S1Y9.out.below hB)
    have E1Y10 : Hid (EdgeRow Y10 ea1 es) := Lib.hid (E1Y9.out.below hB)
    have QY10 : Hid (Blk Y10 gq 31 [.slice sa1 sl sc1, .slice ea1 el ec1]) := Lib.hid (QY9.out.below hB QY9.out.lt)
    have YY10 : Hid (Blk Y10 gy 31 [.slice none 0 0, .slice none 0 0]) := Lib.hid (YY9.out.below hB YY9.out.lt)
    have ZY10 : Hid (Blk Y10 gz 25 [.slice none 0 0, .slice none 0 0]) := Lib.hid (ZY9.out.below hB ZY9.out.lt)
    clear BY9 S0Y9 E0Y9 PY9 S1Y9 E1Y9 QY9 YY9 ZY9
    clear hB
    go_wp2_with fail
    have hBz : Below Y10.heap.size Y10 Y10.drew := below_drewN (Below.refl _ _) 1
    have BX0 : Hid (Below w.heap.size w Y10.drew) := Lib.hid (BY10.out.trans (hBz.mono BY10.out.size))
    have S0X0 : Hid (SpotRow Y10.drew sa0 sp) := Lib.hid (S0Y10.out.below hBz)
    have E0X0 : Hid (EdgeRow Y10.drew ea0 es) := Lib.hid (E0Y10.out.below hBz)
    have PX0 : Hid (Blk Y10.drew gp 25 [.slice sa0 sl sc0, .slice ea0 el ec0]) := Lib.hid (PY10.out.below hBz PY10.out.lt)
    have S1X0 : Hid (SpotRow Y10.drew sa1 sp) := Lib.hid (S1Y10.out.below hBz)
    have E1X0 : Hid (EdgeRow Y10.drew ea1 es) := Lib.hid (E1Y10.out.below hBz)
    have QX0 : Hid (Blk Y10.drew gq 31 [.slice sa1 sl sc1, .slice ea1 el ec1]) := Lib.hid (QY10.out.below hBz QY10.out.lt)
    have YX0 : Hid (Blk Y10.drew gy 31 [.slice none 0 0, .slice none 0 0]) := Lib.hid (YY10.out.below hBz YY10.out.lt)
    have ZX0 : Hid (Blk Y10.drew gz 25 [.slice none 0 0, .slice none 0 0]) := Lib.hid (ZY10.out.below hBz ZY10.out.lt)
    clear hBz
    refine wp_region_held_drew (S := fun w' => Blk w' gy 31 [.slice none 0 0, .slice none 0 0] ∧ Blk w' gz 25 [.slice none 0 0, .slice none 0 0] ∧ Blk w' gq 31 [.slice sa1 sl sc1, .slice ea1 el ec1] ∧ Blk w' gp 25 [.slice sa0 sl sc0, .slice ea0 el ec0]) (by kernel_rfl) (⟨YX0.out, ZX0.out, QX0.out, PX0.out⟩) (fun hHeld => ?_)
    generalize Y10.drew = X0 at hHeld BX0 S0X0 E0X0 PX0 S1X0 E1X0 QX0 YX0 ZX0 ⊢
    refine wpAnyH_ready (rs := [0]) (by kernel_rfl) (by simp) ?_
    refine AllReadyH.cons rfl (fun K hK => ?_) AllReadyH.nil
    refine step_call rfl 14 #[] #[] rfl #[] (by simp) (by go_simp) (wawake_any X0) ?_
    rintro e X1 ⟨rfl, hB⟩
    have BX1 : Hid (Below w.heap.size w X1) := Lib.hid (BX0.out.trans (hB.mono BX0.out.size))
    have S0X1 : Hid (SpotRow X1 sa0 sp) := Lib.hid (S0X0.out.below hB)
    have E0X1 : Hid (EdgeRow X1 ea0 es) := Lib.hid (E0X0.out.below hB)
    have PX1 : Hid (Blk X1 gp 25 [.slice sa0 sl sc0, .slice ea0 el ec0]) := Lib.hid (PX0.out.below hB PX0.out.lt)
    have S1X1 : Hid (SpotRow X1 sa1 sp) := Lib.hid (S1X0.out.below hB)
    have E1X1 : Hid (EdgeRow X1 ea1 es) := Lib.hid (E1X0.out.below hB)
    have QX1 : Hid (Blk X1 gq 31 [.slice sa1 sl sc1, .slice ea1 el ec1]) := Lib.hid (QX0.out.below hB QX0.out.lt)
    have YX1 : Hid (Blk X1 gy 31 [.slice none 0 0, .slice none 0 0]) := Lib.hid (YX0.out.below hB YX0.out.lt)
    have ZX1 : Hid (Blk X1 gz 25 [.slice none 0 0, .slice none 0 0]) := Lib.hid (ZX0.out.below hB ZX0.out.lt)
    clear BX0 S0X0 E0X0 PX0 S1X0 E1X0 QX0 YX0 ZX0 hB
    refine ⟨_, rfl, hK.out _ _ (⟨YX1.out, ZX1.out, QX1.out, PX1.out⟩) (fun hHeld => ?_)⟩
    clear hK K
    show wpAnyH _ _ _ _ _ _ _ (Act.put _ (some 50) _) _
    simp only [Act.put, List.setIfInBounds_toArray, List.set_cons_zero, List.set_cons_succ]
    refine wpAnyH_take (i := 1) (v := .bool true) rfl (by kernel_rfl) (by kernel_rfl) (by kernel_rfl) (fun _ _ _ h => h) (Or.inl ⟨by rfl, fun w _ => by rfl⟩) hHeld ?_
    show wpAnyH _ _ _ _ _ _ _ (Act.put _ (some 51) _) _
    simp only [Act.put, List.setIfInBounds_toArray, List.set_cons_zero, List.set_cons_succ]
    refine wpAnyH_take (i := 2) (v := .int .i64 (sentErr sl es edge node amt)) rfl (by kernel_rfl) (by kernel_rfl) (by kernel_rfl) (fun _ _ _ h => h) (Or.inl ⟨by rfl, fun w _ => by rfl⟩) hHeld ?_
    show wpAnyH _ _ _ _ _ _ _ (Act.put _ (some 52) _) _
    simp only [Act.put, List.setIfInBounds_toArray, List.set_cons_zero, List.set_cons_succ]
    refine wpAnyH_take (i := 3) (v := .int .i64 (sentErr sl es edge node amt)) rfl (by kernel_rfl) (by kernel_rfl) (by kernel_rfl) (fun _ _ _ h => h) (Or.inl ⟨by rfl, fun w _ => by rfl⟩) hHeld ?_
    show wpAnyH _ _ _ _ _ _ _ (Act.put _ (some 53) _) _
    simp only [Act.put, List.setIfInBounds_toArray, List.set_cons_zero, List.set_cons_succ]
    refine wpAnyH_take (i := 4) (v := .bool true) rfl (by kernel_rfl) (by kernel_rfl) (by kernel_rfl) (fun _ _ _ h => h) (Or.inl ⟨by rfl, by intro w' h; go_simp⟩) hHeld ?_
    show wpAnyH _ _ _ _ _ _ _ (Act.put _ (some 54) _) _
    simp only [Act.put, List.setIfInBounds_toArray, List.set_cons_zero, List.set_cons_succ]
    refine wpAnyH_take (i := 5) (v := .bool true) rfl (by kernel_rfl) (by kernel_rfl) (by kernel_rfl) (fun _ _ _ h => h) (Or.inl ⟨by rfl, by intro w hSw; first | rfl | go_simp⟩) hHeld ?_
    show wpAnyH _ _ _ _ _ _ _ (Act.put _ (some 55) _) _
    simp only [Act.put, List.setIfInBounds_toArray, List.set_cons_zero, List.set_cons_succ]
    refine wpAnyH_take (i := 6) (v := .bool true) rfl (by kernel_rfl) (by kernel_rfl) (by kernel_rfl) (fun _ _ _ h => h) (Or.inl ⟨by rfl, fun w _ => by rfl⟩) hHeld ?_
    show wpAnyH _ _ _ _ _ _ _ (Act.put _ (some 56) _) _
    simp only [Act.put, List.setIfInBounds_toArray, List.set_cons_zero, List.set_cons_succ]
    refine wpAnyH_take (i := 7) (v := .agg #[.slice none 0 0, .slice none 0 0]) rfl (by kernel_rfl) (by kernel_rfl) (by kernel_rfl) (fun _ _ _ h => h) (Or.inl ⟨by rfl, by intro w' h; have k0 := Blk.cell h.1 0; have k1 := Blk.cell h.1 1; simp only [List.getElem?_cons_zero, List.getElem?_cons_succ] at k0 k1; go_simp⟩) hHeld ?_
    show wpAnyH _ _ _ _ _ _ _ (Act.put _ (some 57) _) _
    simp only [Act.put, List.setIfInBounds_toArray, List.set_cons_zero, List.set_cons_succ]
    refine wpAnyH_take (i := 9) (v := .agg #[.slice none 0 0, .slice none 0 0]) rfl (by kernel_rfl) (by kernel_rfl) (by kernel_rfl) (fun _ _ _ h => h) (Or.inl ⟨by rfl, by intro w' h; have k0 := Blk.cell h.2.1 0; have k1 := Blk.cell h.2.1 1; simp only [List.getElem?_cons_zero, List.getElem?_cons_succ] at k0 k1; go_simp⟩) hHeld ?_
    show wpAnyH _ _ _ _ _ _ _ (Act.put _ (some 59) _) _
    simp only [Act.put, List.setIfInBounds_toArray, List.set_cons_zero, List.set_cons_succ]
    refine wpAnyH_ready (rs := [8]) (by kernel_rfl) (by simp) ?_
    refine AllReadyH.cons rfl (fun K hK => ?_) AllReadyH.nil
    refine step_call rfl 32 #[.tmp 57] #[31] rfl #[.agg #[.slice none 0 0, .slice none 0 0]] (by simp [Act.eval]) (by go_simp) (wfrom_any none 0 0 none 0 0 [] [] X1 (.inl rfl) (.inl rfl) rfl rfl (by decide) (by decide)) ?_
    rintro e X2 ⟨sa5, sc5, ea5, ec5, rfl, hS, hE, hB⟩
    have BX2 : Hid (Below w.heap.size w X2) := Lib.hid (BX1.out.trans (hB.mono BX1.out.size))
    have S0X2 : Hid (SpotRow X2 sa0 sp) := Lib.hid (S0X1.out.below hB)
    have E0X2 : Hid (EdgeRow X2 ea0 es) := Lib.hid (E0X1.out.below hB)
    have PX2 : Hid (Blk X2 gp 25 [.slice sa0 sl sc0, .slice ea0 el ec0]) := Lib.hid (PX1.out.below hB PX1.out.lt)
    have S1X2 : Hid (SpotRow X2 sa1 sp) := Lib.hid (S1X1.out.below hB)
    have E1X2 : Hid (EdgeRow X2 ea1 es) := Lib.hid (E1X1.out.below hB)
    have QX2 : Hid (Blk X2 gq 31 [.slice sa1 sl sc1, .slice ea1 el ec1]) := Lib.hid (QX1.out.below hB QX1.out.lt)
    have YX2 : Hid (Blk X2 gy 31 [.slice none 0 0, .slice none 0 0]) := Lib.hid (YX1.out.below hB YX1.out.lt)
    have ZX2 : Hid (Blk X2 gz 25 [.slice none 0 0, .slice none 0 0]) := Lib.hid (ZX1.out.below hB ZX1.out.lt)
    have S5X2 : Hid (SpotRow X2 sa5 []) := Lib.hid (hS)
    have E5X2 : Hid (EdgeRow X2 ea5 []) := Lib.hid (hE)
    clear BX1 S0X1 E0X1 PX1 S1X1 E1X1 QX1 YX1 ZX1 hB hS hE
    refine ⟨_, rfl, hK.out _ _ (⟨YX2.out, ZX2.out, QX2.out, PX2.out⟩) (fun hHeld => ?_)⟩
    clear hK K
    show wpAnyH _ _ _ _ _ _ _ (Act.put _ (some 58) _) _
    simp only [Act.put, List.setIfInBounds_toArray, List.set_cons_zero, List.set_cons_succ]
    refine wpAnyH_ready (rs := [10]) (by kernel_rfl) (by simp) ?_
    refine AllReadyH.cons rfl (fun K hK => ?_) AllReadyH.nil
    refine step_call rfl 31 #[.tmp 58, .tmp 59] #[25, 25] rfl #[.agg #[.slice sa5 0 sc5, .slice ea5 0 ec5], .agg #[.slice none 0 0, .slice none 0 0]] (by simp [Act.eval]) (by go_simp) (wsame_any sa5 0 sc5 ea5 0 ec5 none 0 none 0 [] [] X2 S5X2.out E5X2.out (.inl rfl) (.inl rfl) rfl rfl (by decide) (by decide)) ?_
    rintro e X3 ⟨rfl, hB⟩
    have BX3 : Hid (Below w.heap.size w X3) := Lib.hid (BX2.out.trans (hB.mono BX2.out.size))
    have S0X3 : Hid (SpotRow X3 sa0 sp) := Lib.hid (S0X2.out.below hB)
    have E0X3 : Hid (EdgeRow X3 ea0 es) := Lib.hid (E0X2.out.below hB)
    have PX3 : Hid (Blk X3 gp 25 [.slice sa0 sl sc0, .slice ea0 el ec0]) := Lib.hid (PX2.out.below hB PX2.out.lt)
    have S1X3 : Hid (SpotRow X3 sa1 sp) := Lib.hid (S1X2.out.below hB)
    have E1X3 : Hid (EdgeRow X3 ea1 es) := Lib.hid (E1X2.out.below hB)
    have QX3 : Hid (Blk X3 gq 31 [.slice sa1 sl sc1, .slice ea1 el ec1]) := Lib.hid (QX2.out.below hB QX2.out.lt)
    have YX3 : Hid (Blk X3 gy 31 [.slice none 0 0, .slice none 0 0]) := Lib.hid (YX2.out.below hB YX2.out.lt)
    have ZX3 : Hid (Blk X3 gz 25 [.slice none 0 0, .slice none 0 0]) := Lib.hid (ZX2.out.below hB ZX2.out.lt)
    have S5X3 : Hid (SpotRow X3 sa5 []) := Lib.hid (S5X2.out.below hB)
    have E5X3 : Hid (EdgeRow X3 ea5 []) := Lib.hid (E5X2.out.below hB)
    clear BX2 S0X2 E0X2 PX2 S1X2 E1X2 QX2 YX2 ZX2 S5X2 E5X2 hB
    refine ⟨_, rfl, hK.out _ _ (⟨YX3.out, ZX3.out, QX3.out, PX3.out⟩) (fun hHeld => ?_)⟩
    clear hK K
    show wpAnyH _ _ _ _ _ _ _ (Act.put _ (some 60) _) _
    simp only [Act.put, List.setIfInBounds_toArray, List.set_cons_zero, List.set_cons_succ]
    refine wpAnyH_take (i := 11) (v := .bool true) rfl (by kernel_rfl) (by kernel_rfl) (by kernel_rfl) (fun _ _ _ h => h) (Or.inl ⟨by rfl, by intro w hSw; first | rfl | go_simp⟩) hHeld ?_
    show wpAnyH _ _ _ _ _ _ _ (Act.put _ (some 61) _) _
    simp only [Act.put, List.setIfInBounds_toArray, List.set_cons_zero, List.set_cons_succ]
    refine wpAnyH_take (i := 12) (v := .bool true) rfl (by kernel_rfl) (by kernel_rfl) (by kernel_rfl) (fun _ _ _ h => h) (Or.inl ⟨by rfl, fun w _ => by rfl⟩) hHeld ?_
    show wpAnyH _ _ _ _ _ _ _ (Act.put _ (some 62) _) _
    simp only [Act.put, List.setIfInBounds_toArray, List.set_cons_zero, List.set_cons_succ]
    refine wpAnyH_take (i := 13) (v := .int .u64 (allV es)) rfl (by kernel_rfl) (by kernel_rfl) (by kernel_rfl) (fun _ _ _ h => h) (Or.inl ⟨by rfl, fun w _ => by rfl⟩) hHeld ?_
    show wpAnyH _ _ _ _ _ _ _ (Act.put _ (some 63) _) _
    simp only [Act.put, List.setIfInBounds_toArray, List.set_cons_zero, List.set_cons_succ]
    refine wpAnyH_take (i := 14) (v := .int .u64 (allV es)) rfl (by kernel_rfl) (by kernel_rfl) (by kernel_rfl) (fun _ _ _ h => h) (Or.inl ⟨by rfl, fun w _ => by rfl⟩) hHeld ?_
    show wpAnyH _ _ _ _ _ _ _ (Act.put _ (some 64) _) _
    simp only [Act.put, List.setIfInBounds_toArray, List.set_cons_zero, List.set_cons_succ]
    refine wpAnyH_take (i := 15) (v := .bool true) rfl (by kernel_rfl) (by kernel_rfl) (by kernel_rfl) (fun _ _ _ h => h) (Or.inl ⟨by rfl, by intro w' h; go_simp⟩) hHeld ?_
    show wpAnyH _ _ _ _ _ _ _ (Act.put _ (some 65) _) _
    simp only [Act.put, List.setIfInBounds_toArray, List.set_cons_zero, List.set_cons_succ]
    refine wpAnyH_take (i := 16) (v := .bool true) rfl (by kernel_rfl) (by kernel_rfl) (by kernel_rfl) (fun _ _ _ h => h) (Or.inl ⟨by rfl, by intro w hSw; first | rfl | go_simp⟩) hHeld ?_
    show wpAnyH _ _ _ _ _ _ _ (Act.put _ (some 66) _) _
    simp only [Act.put, List.setIfInBounds_toArray, List.set_cons_zero, List.set_cons_succ]
    refine wpAnyH_take (i := 17) (v := .bool true) rfl (by kernel_rfl) (by kernel_rfl) (by kernel_rfl) (fun _ _ _ h => h) (Or.inl ⟨by rfl, fun w _ => by rfl⟩) hHeld ?_
    show wpAnyH _ _ _ _ _ _ _ (Act.put _ (some 67) _) _
    simp only [Act.put, List.setIfInBounds_toArray, List.set_cons_zero, List.set_cons_succ]
    refine wpAnyH_take (i := 18) (v := .int .i64 (allE es)) rfl (by kernel_rfl) (by kernel_rfl) (by kernel_rfl) (fun _ _ _ h => h) (Or.inl ⟨by rfl, fun w _ => by rfl⟩) hHeld ?_
    show wpAnyH _ _ _ _ _ _ _ (Act.put _ (some 68) _) _
    simp only [Act.put, List.setIfInBounds_toArray, List.set_cons_zero, List.set_cons_succ]
    refine wpAnyH_take (i := 19) (v := .int .i64 (allE es)) rfl (by kernel_rfl) (by kernel_rfl) (by kernel_rfl) (fun _ _ _ h => h) (Or.inl ⟨by rfl, fun w _ => by rfl⟩) hHeld ?_
    show wpAnyH _ _ _ _ _ _ _ (Act.put _ (some 69) _) _
    simp only [Act.put, List.setIfInBounds_toArray, List.set_cons_zero, List.set_cons_succ]
    refine wpAnyH_take (i := 20) (v := .bool true) rfl (by kernel_rfl) (by kernel_rfl) (by kernel_rfl) (fun _ _ _ h => h) (Or.inl ⟨by rfl, by intro w' h; go_simp⟩) hHeld ?_
    show wpAnyH _ _ _ _ _ _ _ (Act.put _ (some 70) _) _
    simp only [Act.put, List.setIfInBounds_toArray, List.set_cons_zero, List.set_cons_succ]
    refine wpAnyH_take (i := 21) (v := .bool true) rfl (by kernel_rfl) (by kernel_rfl) (by kernel_rfl) (fun _ _ _ h => h) (Or.inl ⟨by rfl, by intro w hSw; first | rfl | go_simp⟩) hHeld ?_
    show wpAnyH _ _ _ _ _ _ _ (Act.put _ (some 71) _) _
    simp only [Act.put, List.setIfInBounds_toArray, List.set_cons_zero, List.set_cons_succ]
    refine wpAnyH_take (i := 22) (v := .bool true) rfl (by kernel_rfl) (by kernel_rfl) (by kernel_rfl) (fun _ _ _ h => h) (Or.inl ⟨by rfl, fun w _ => by rfl⟩) hHeld ?_
    show wpAnyH _ _ _ _ _ _ _ (Act.put _ (some 72) _) _
    simp only [Act.put, List.setIfInBounds_toArray, List.set_cons_zero, List.set_cons_succ]
    refine wpAnyH_take (i := 23) (v := .agg #[.slice sa1 sl sc1, .slice ea1 el ec1]) rfl (by kernel_rfl) (by kernel_rfl) (by kernel_rfl) (fun _ _ _ h => h) (Or.inl ⟨by rfl, by intro w' h; have k0 := Blk.cell h.2.2.1 0; have k1 := Blk.cell h.2.2.1 1; simp only [List.getElem?_cons_zero, List.getElem?_cons_succ] at k0 k1; go_simp⟩) hHeld ?_
    show wpAnyH _ _ _ _ _ _ _ (Act.put _ (some 73) _) _
    simp only [Act.put, List.setIfInBounds_toArray, List.set_cons_zero, List.set_cons_succ]
    refine wpAnyH_take (i := 25) (v := .agg #[.slice sa0 sl sc0, .slice ea0 el ec0]) rfl (by kernel_rfl) (by kernel_rfl) (by kernel_rfl) (fun _ _ _ h => h) (Or.inl ⟨by rfl, by intro w' h; have k0 := Blk.cell h.2.2.2 0; have k1 := Blk.cell h.2.2.2 1; simp only [List.getElem?_cons_zero, List.getElem?_cons_succ] at k0 k1; go_simp⟩) hHeld ?_
    show wpAnyH _ _ _ _ _ _ _ (Act.put _ (some 75) _) _
    simp only [Act.put, List.setIfInBounds_toArray, List.set_cons_zero, List.set_cons_succ]
    refine wpAnyH_ready (rs := [24]) (by kernel_rfl) (by simp) ?_
    refine AllReadyH.cons rfl (fun K hK => ?_) AllReadyH.nil
    refine step_call rfl 32 #[.tmp 73] #[31] rfl #[.agg #[.slice sa1 sl sc1, .slice ea1 el ec1]] (by simp [Act.eval]) (by go_simp) (wfrom_any sa1 sl sc1 ea1 el ec1 sp es X3 S1X3.out E1X3.out HSL.out HEL.out hs20 he30) ?_
    rintro e X4 ⟨sa6, sc6, ea6, ec6, rfl, hS, hE, hB⟩
    have BX4 : Hid (Below w.heap.size w X4) := Lib.hid (BX3.out.trans (hB.mono BX3.out.size))
    have S0X4 : Hid (SpotRow X4 sa0 sp) := Lib.hid (S0X3.out.below hB)
    have E0X4 : Hid (EdgeRow X4 ea0 es) := Lib.hid (E0X3.out.below hB)
    have PX4 : Hid (Blk X4 gp 25 [.slice sa0 sl sc0, .slice ea0 el ec0]) := Lib.hid (PX3.out.below hB PX3.out.lt)
    have S1X4 : Hid (SpotRow X4 sa1 sp) := Lib.hid (S1X3.out.below hB)
    have E1X4 : Hid (EdgeRow X4 ea1 es) := Lib.hid (E1X3.out.below hB)
    have QX4 : Hid (Blk X4 gq 31 [.slice sa1 sl sc1, .slice ea1 el ec1]) := Lib.hid (QX3.out.below hB QX3.out.lt)
    have YX4 : Hid (Blk X4 gy 31 [.slice none 0 0, .slice none 0 0]) := Lib.hid (YX3.out.below hB YX3.out.lt)
    have ZX4 : Hid (Blk X4 gz 25 [.slice none 0 0, .slice none 0 0]) := Lib.hid (ZX3.out.below hB ZX3.out.lt)
    have S5X4 : Hid (SpotRow X4 sa5 []) := Lib.hid (S5X3.out.below hB)
    have E5X4 : Hid (EdgeRow X4 ea5 []) := Lib.hid (E5X3.out.below hB)
    have S6X4 : Hid (SpotRow X4 sa6 sp) := Lib.hid (hS)
    have E6X4 : Hid (EdgeRow X4 ea6 es) := Lib.hid (hE)
    clear BX3 S0X3 E0X3 PX3 S1X3 E1X3 QX3 YX3 ZX3 S5X3 E5X3 hB hS hE
    refine ⟨_, rfl, hK.out _ _ (⟨YX4.out, ZX4.out, QX4.out, PX4.out⟩) (fun hHeld => ?_)⟩
    clear hK K
    show wpAnyH _ _ _ _ _ _ _ (Act.put _ (some 74) _) _
    simp only [Act.put, List.setIfInBounds_toArray, List.set_cons_zero, List.set_cons_succ]
    refine wpAnyH_ready (rs := [26]) (by kernel_rfl) (by simp) ?_
    refine AllReadyH.cons rfl (fun K hK => ?_) AllReadyH.nil
    refine step_call rfl 31 #[.tmp 74, .tmp 75] #[25, 25] rfl #[.agg #[.slice sa6 sl sc6, .slice ea6 el ec6], .agg #[.slice sa0 sl sc0, .slice ea0 el ec0]] (by simp [Act.eval]) (by go_simp) (wsame_any sa6 sl sc6 ea6 el ec6 sa0 sc0 ea0 ec0 sp es X4 S6X4.out E6X4.out S0X4.out E0X4.out HSL.out HEL.out hs20 he30) ?_
    rintro e X5 ⟨rfl, hB⟩
    have BX5 : Hid (Below w.heap.size w X5) := Lib.hid (BX4.out.trans (hB.mono BX4.out.size))
    have S0X5 : Hid (SpotRow X5 sa0 sp) := Lib.hid (S0X4.out.below hB)
    have E0X5 : Hid (EdgeRow X5 ea0 es) := Lib.hid (E0X4.out.below hB)
    have PX5 : Hid (Blk X5 gp 25 [.slice sa0 sl sc0, .slice ea0 el ec0]) := Lib.hid (PX4.out.below hB PX4.out.lt)
    have S1X5 : Hid (SpotRow X5 sa1 sp) := Lib.hid (S1X4.out.below hB)
    have E1X5 : Hid (EdgeRow X5 ea1 es) := Lib.hid (E1X4.out.below hB)
    have QX5 : Hid (Blk X5 gq 31 [.slice sa1 sl sc1, .slice ea1 el ec1]) := Lib.hid (QX4.out.below hB QX4.out.lt)
    have YX5 : Hid (Blk X5 gy 31 [.slice none 0 0, .slice none 0 0]) := Lib.hid (YX4.out.below hB YX4.out.lt)
    have ZX5 : Hid (Blk X5 gz 25 [.slice none 0 0, .slice none 0 0]) := Lib.hid (ZX4.out.below hB ZX4.out.lt)
    have S5X5 : Hid (SpotRow X5 sa5 []) := Lib.hid (S5X4.out.below hB)
    have E5X5 : Hid (EdgeRow X5 ea5 []) := Lib.hid (E5X4.out.below hB)
    have S6X5 : Hid (SpotRow X5 sa6 sp) := Lib.hid (S6X4.out.below hB)
    have E6X5 : Hid (EdgeRow X5 ea6 es) := Lib.hid (E6X4.out.below hB)
    clear BX4 S0X4 E0X4 PX4 S1X4 E1X4 QX4 YX4 ZX4 S5X4 E5X4 S6X4 E6X4 hB
    refine ⟨_, rfl, hK.out _ _ (⟨YX5.out, ZX5.out, QX5.out, PX5.out⟩) (fun hHeld => ?_)⟩
    clear hK K
    show wpAnyH _ _ _ _ _ _ _ (Act.put _ (some 76) _) _
    simp only [Act.put, List.setIfInBounds_toArray, List.set_cons_zero, List.set_cons_succ]
    refine wpAnyH_take (i := 27) (v := .bool true) rfl (by kernel_rfl) (by kernel_rfl) (by kernel_rfl) (fun _ _ _ h => h) (Or.inl ⟨by rfl, by intro w hSw; first | rfl | go_simp⟩) hHeld ?_
    show wpAnyH _ _ _ _ _ _ _ (Act.put _ (some 77) _) _
    simp only [Act.put, List.setIfInBounds_toArray, List.set_cons_zero, List.set_cons_succ]
    refine wpAnyH_take (i := 28) (v := .bool true) rfl (by kernel_rfl) (by kernel_rfl) (by kernel_rfl) (fun _ _ _ h => h) (Or.inl ⟨by rfl, fun w _ => by rfl⟩) hHeld ?_
    show wpAnyH _ _ _ _ _ _ _ (Act.put _ (some 8) _) _
    simp only [Act.put, List.setIfInBounds_toArray, List.set_cons_zero, List.set_cons_succ]
    refine wpAnyH_done (by kernel_rfl) ?_ _
    go_wp2
    go_ret
    exact ⟨rfl, BX5.out⟩

set_option maxRecDepth 100000 in
theorem lifted (os : Os) (started : os.Started) (H : Type) (enc : TypeId × Value → H) :
    ReturnsInHanded {} Try.checked os 5 .any (Rows.webSendsSpec.pre6 enc Try.prog Try.f5 Rows.webSendsRow.domain false) (Rows.webSendsSpec.post enc Try.prog Try.f5 false true false false) := by
  refine returnsInHanded_of_change (C := Try.checked) own started (by kernel_rfl) Try.func5
    (ChangeSpec.witness6 (enc := enc) (C := Try.checked) false ⟨#[], #[.agg #[.slice none 0 0, .slice none 0 0], .int .i64 0, .int .i64 0, .int .u64 0], []⟩ 8 (by kernel_rfl) (by kernel_rfl) (by kernel_rfl) (by kernel_rfl)) ?_
  intro W base args ds gs before hval0 hW hcnd _
  have hval : ∀ (j : Nat) t v, Try.f5.params[j]? = some t → args[j]? = some v → Value.okWide Try.prog W .any base t v := hval0
  have hW' := hW
  obtain ⟨p, q, hA0, hV, rfl, hfz, hnd⟩ := hW
  have hA : DataW.TrodAll enc Try.prog W 0 (fun _ => true) true Try.f5.params.toList args.toList ds p := hA0
  rw [Try.params5] at hA hval
  obtain ⟨v0, vs0, dd0, ds0, p0, q0, hargs, rfl, rfl, h0, r0⟩ := trodAll_cons hA
  obtain ⟨v1, vs1, dd1, ds1, p1, q1, rfl, rfl, rfl, h1, r1⟩ := trodAll_cons r0
  obtain ⟨v2, vs2, dd2, ds2, p2, q2, rfl, rfl, rfl, h2, r2⟩ := trodAll_cons r1
  obtain ⟨v3, vs3, dd3, ds3, p3, q3, rfl, rfl, rfl, h3, r3⟩ := trodAll_cons r2
  obtain ⟨rfl, rfl, rfl⟩ := trodAll_nil r3
  obtain rfl : args = #[v0, v1, v2, v3] := by cases args; simp_all
  obtain ⟨rfl, rfl⟩ := trodVars_none hV
  have k0 := h0
  have lt0 : ∀ x ∈ p0, x.block < W.heap.size := by obtain ⟨m, hm⟩ := k0; exact DataW.trod_lt m _ _ _ hm
  obtain ⟨A0, l0, c0, B0, m0, d0, sp0, es0, rfl, hsp0, hes0, hS0, hE0, hok0, hm0, hn0⟩ := openWeb (hval 0 25 v0 rfl rfl) h0
  obtain ⟨a1, rfl, rfl, rfl, w1⟩ := open_int Try.underlying3 (hval 1 3 v1 rfl rfl) h1
  obtain ⟨a2, rfl, rfl, rfl, w2⟩ := open_int Try.underlying3 (hval 2 3 v2 rfl rfl) h2
  obtain ⟨a3, rfl, rfl, rfl, w3⟩ := open_int Try.underlying40 (hval 3 40 v3 rfl rfl) h3
  clear hA0 hval0
  refine Calls.mono (R := Ok W) ?_ fun e W1 ⟨he, bel⟩ => ?_
  · skip
    by_cases h : lightB l0 m0 = true
    · exact way_light A0 l0 c0 B0 m0 d0 sp0 es0 a1 a2 a3 W h hsp0 hes0 hS0 hE0 hok0 (word_wf w3)
    · exact way_dark A0 l0 c0 B0 m0 d0 a1 a2 a3 W (by simpa using h)
  subst he
  exact ⟨_, rfl, _, _, _, [], _, [], hW', trodAll_mk1 (shut_bool Try.underlying4 _), (trodAll_cons_mk (Below.trod laidOut (by kernel_rfl) (of_decide_eq_true (by kernel_rfl)) k0 bel lt0) (trodAll_cons_mk (shut_int Try.underlying3 w1) (trodAll_cons_mk (shut_int Try.underlying3 w2) (trodAll_cons_mk (shut_int Try.underlying40 w3) trodAll_mk0)))), rfl, bel.frame _, fun h => by cases h⟩

theorem proved : Rows.WebSendsSaid :=
  OpenClaim.holds_of_wide 5 Try.f5 rfl rfl rfl rfl rfl rfl rfl ⟨rfl, rfl, rfl, rfl, rfl⟩ rfl rfl rfl rfl rfl (by kernel_rfl) Try.func5 (by kernel_rfl)
    (of_decide_eq_true (by kernel_rfl)) (by unfold Func.isWrapper; first | (rw [if_pos (by decide +kernel)]; kernel_rfl) | (rw [if_neg (by decide +kernel)]; exact ⟨rfl, rfl⟩))
    (fun os started H enc _ => lifted os started H enc)
#print axioms proved
end Go.Proofs.Ytnnimjaigciedaa.webSends
