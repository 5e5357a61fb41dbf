/-
  tollhouselaw08.PathSound returns true for every input: each route leads from one node to the other one, by no node twice, over channels that are there; its amounts never rise; none costs less than the best. Nothing that was there is written.
-/
import Derived.Test.YtnnimjaigciedaaPathSi
import Derived.Test.YtnnimjaigciedaaM16
import Derived.Test.YtnnimjaigciedaaM02
import Derived.Test.YtnnimjaigciedaaRows
import Derived.Deep.CutBlock
import Derived.Deep.DeepCutAuto
import Derived.BigQuiet
import Derived.IntWalk
namespace Go.Proofs.Ytnnimjaigciedaa.pathSound
open Go.ChangeShapes Go.WideShapes Go.ChangeAt Go.RowKit
set_option linter.unusedVariables false

def Ok (w : World) (e : Ending) (w' : World) : Prop := e = .returned (.bool true) ∧ Below w.heap.size w w'
set_option maxRecDepth 100000 in
set_option maxHeartbeats 4000000 in
theorem sound_dark (sa0 : Option Addr) (sl sc0 : Nat) (ea0 : Option Addr) (el ec0 : Nat) (src goal amt : Int) (w : World) (hl : lightB sl el = false) :
    Calls Try.prog 12 #[.agg #[.slice sa0 sl sc0, .slice ea0 el ec0], .int .i64 src, .int .i64 goal, .int .u64 amt] w (Ok w) := by
  have HL := Lib.hid (fun w => light_any sa0 sl sc0 ea0 el ec0 w)
  rw [hl] at HL
  have HP0 : Hid (Blk (w.alloc (.cells #[.slice sa0 sl sc0, .slice ea0 el ec0] 25)) w.heap.size 25 [.slice sa0 sl sc0, .slice ea0 el ec0]) := Lib.hid (Blk.new w 25 [.slice sa0 sl sc0, .slice ea0 el ec0])
  have B0 : Hid (Below w.heap.size w (w.alloc (.cells #[.slice sa0 sl sc0, .slice ea0 el ec0] 25))) := Lib.hid ((Below.refl _ _).alloc (Nat.le_refl _) _)
  clear hl
  go_enter Try.func12, Try.ntmps12
  have p0 : (w.alloc (.cells #[.slice sa0 sl sc0, .slice ea0 el ec0] 25)).cell? ⟨w.heap.size, 0, none⟩ = some (.slice sa0 sl sc0) := HP0.out.cell 0
  have p1 : (w.alloc (.cells #[.slice sa0 sl sc0, .slice ea0 el ec0] 25)).cell? ⟨w.heap.size, 1, none⟩ = some (.slice ea0 el ec0) := HP0.out.cell 1
  go_wp2_with fail
  clear p0 p1
  refine (HL.out _).mono ?_
  rintro e Y ⟨rfl, hB⟩
  have B1 := Lib.hid (B0.out.trans (hB.mono B0.out.size))
  clear hB B0
  go_wp2_with fail
  refine (pawake_any _).mono ?_
  rintro e Y2 ⟨rfl, hB⟩
  have B2 := Lib.hid (B1.out.trans (hB.mono B1.out.size))
  clear hB B1
  go_wp2
  go_ret
  exact ⟨rfl, B2.out⟩

set_option maxRecDepth 100000 in
set_option maxHeartbeats 8000000 in
theorem sound_err (sa0 : Option Addr) (sl sc0 : Nat) (ea0 : Option Addr) (el ec0 : Nat) (sp : List (Int × Int)) (es : List Ed) (src goal amt : Int) (w : World) (hl : lightB sl el = true) (hsl : sp.length = sl) (hel : es.length = el) (hS : SpotRow w sa0 sp) (hE : EdgeRow w ea0 es) (hok : ∀ e ∈ es, EdOk e) (ham : Word amt) (hc : seekE sl es src goal amt ≠ 0) :
    Calls Try.prog 12 #[.agg #[.slice sa0 sl sc0, .slice ea0 el ec0], .int .i64 src, .int .i64 goal, .int .u64 amt] w (Ok w) := by
  have HL := Lib.hid (fun w => light_any sa0 sl sc0 ea0 el ec0 w)
  rw [hl] at HL
  have hlt : sl ≤ 20 ∧ el ≤ 30 := by unfold lightB at hl; exact of_decide_eq_true hl
  obtain ⟨hs20, he30⟩ := hlt
  have HSL := Lib.hid hsl
  have HEL := Lib.hid hel
  have HOK := Lib.hid hok
  have HAM := Lib.hid ham
  have B0 : Hid (Below w.heap.size w (w.alloc (.cells #[.slice sa0 sl sc0, .slice ea0 el ec0] 25))) := Lib.hid ((Below.refl _ _).alloc (Nat.le_refl _) _)
  have HP0 : Hid (Blk (w.alloc (.cells #[.slice sa0 sl sc0, .slice ea0 el ec0] 25)) w.heap.size 25 [.slice sa0 sl sc0, .slice ea0 el ec0]) := Lib.hid (Blk.new w 25 [.slice sa0 sl sc0, .slice ea0 el ec0])
  have HS0 := Lib.hid hS
  have HE0 := Lib.hid hE
  have HCC := Lib.hid hc
  clear hl hsl hel hok hS hE hc ham
  go_enter Try.func12, Try.ntmps12
  have p0 : (w.alloc (.cells #[.slice sa0 sl sc0, .slice ea0 el ec0] 25)).cell? ⟨w.heap.size, 0, none⟩ = some (.slice sa0 sl sc0) := HP0.out.cell 0
  have p1 : (w.alloc (.cells #[.slice sa0 sl sc0, .slice ea0 el ec0] 25)).cell? ⟨w.heap.size, 1, none⟩ = some (.slice ea0 el ec0) := HP0.out.cell 1
  go_wp2_with fail
  clear p0 p1
  refine (HL.out _).mono ?_
  rintro e V1 ⟨rfl, hB⟩
  have P1 := Lib.hid (HP0.out.below hB HP0.out.lt)
  have B1 := Lib.hid (B0.out.trans (hB.mono B0.out.size))
  clear hB B0 HL HP0
  have p0 : V1.cell? ⟨w.heap.size, 0, none⟩ = some (.slice sa0 sl sc0) := P1.out.cell 0
  have p1 : V1.cell? ⟨w.heap.size, 1, none⟩ = some (.slice ea0 el ec0) := P1.out.cell 1
  go_wp2_with fail
  clear p0 p1
  refine (wto_any sa0 sl sc0 ea0 el ec0 sp es V1 (HS0.out.below B1.out) (HE0.out.below B1.out) HSL.out HEL.out hs20 he30).mono ?_
  rintro e V2 ⟨sa1, sc1, ea1, ec1, rfl, hS1, hE1, hn1, hn2, hB⟩
  have B2 := Lib.hid (B1.out.trans (hB.mono B1.out.size))
  have HE1 := Lib.hid hE1
  clear hB P1 B1 hE1 hn1 hn2 hS1
  have hBo : Below V2.heap.size V2 (V2.alloc (.cells #[.slice sa1 sl sc1, .slice ea1 el ec1] 31)) := (Below.refl _ _).alloc (Nat.le_refl _) _
  have QV : Hid (Blk (V2.alloc (.cells #[.slice sa1 sl sc1, .slice ea1 el ec1] 31)) V2.heap.size 31 [.slice sa1 sl sc1, .slice ea1 el ec1]) := Lib.hid (Blk.new _ _ [.slice sa1 sl sc1, .slice ea1 el ec1])
  have BV := Lib.hid (B2.out.trans (hBo.mono B2.out.size))
  have EV := Lib.hid (HE1.out.below hBo)
  clear hBo B2 HE1 HS0 HE0
  go_upto_region 4 with fail
  generalize V2.alloc (.cells #[.slice sa1 sl sc1, .slice ea1 el ec1] 31) = V at QV BV EV ⊢
  generalize V2.heap.size = gq at QV ⊢
  have cQ0 := Blk.cell QV.out 0
  have cQ1 := Blk.cell QV.out 1
  simp only [List.getElem?_cons_zero, List.getElem?_cons_succ] at cQ0 cQ1
  go_wp2_with fail
  clear cQ0 cQ1
  refine (pall_any sa1 sl sc1 ea1 el ec1 es src goal amt V EV.out HEL.out (by omega) (by omega) HOK.out HAM.out).mono ?_
  rintro e Y1 ⟨hB, hP⟩
  have QY1 : Hid (Blk Y1 gq 31 [.slice sa1 sl sc1, .slice ea1 el ec1]) := Lib.hid (QV.out.below hB QV.out.lt)
  have EY1 : Hid (EdgeRow Y1 ea1 es) := Lib.hid (EV.out.below hB)
  have BY1 : Hid (Below w.heap.size w Y1) := Lib.hid (BV.out.trans (hB.mono BV.out.size))
  clear QV EV BV
  clear hB
  rcases hP with ⟨hz, _⟩ | ⟨hz, rfl⟩
  · exact absurd hz HCC.out
  obtain ⟨cd, hcd⟩ : ∃ cd, seekE sl es src goal amt = cd := ⟨_, rfl⟩
  rw [hcd] at hz ⊢
  have b0 : (cd != 0) = true := by simpa using hz
  clear hz hcd HCC
  go_wp2_with fail
  refine (pawake_any _).mono ?_
  rintro e YZ ⟨rfl, hB⟩
  have BZ := Lib.hid (BY1.out.trans (hB.mono BY1.out.size))
  clear hB
  go_wp2
  go_ret
  exact ⟨rfl, BZ.out⟩

set_option maxRecDepth 100000 in
set_option maxHeartbeats 8000000 in
theorem sound_none (sa0 : Option Addr) (sl sc0 : Nat) (ea0 : Option Addr) (el ec0 : Nat) (sp : List (Int × Int)) (es : List Ed) (src goal amt : Int) (w : World) (hl : lightB sl el = true) (hsl : sp.length = sl) (hel : es.length = el) (hS : SpotRow w sa0 sp) (hE : EdgeRow w ea0 es) (hok : ∀ e ∈ es, EdOk e) (ham : Word amt) (hc : seekE sl es src goal amt = 0 ∧ wayL sl es src goal amt = []) :
    Calls Try.prog 12 #[.agg #[.slice sa0 sl sc0, .slice ea0 el ec0], .int .i64 src, .int .i64 goal, .int .u64 amt] w (Ok w) := by
  have HL := Lib.hid (fun w => light_any sa0 sl sc0 ea0 el ec0 w)
  rw [hl] at HL
  have hlt : sl ≤ 20 ∧ el ≤ 30 := by unfold lightB at hl; exact of_decide_eq_true hl
  obtain ⟨hs20, he30⟩ := hlt
  have HSL := Lib.hid hsl
  have HEL := Lib.hid hel
  have HOK := Lib.hid hok
  have HAM := Lib.hid ham
  have B0 : Hid (Below w.heap.size w (w.alloc (.cells #[.slice sa0 sl sc0, .slice ea0 el ec0] 25))) := Lib.hid ((Below.refl _ _).alloc (Nat.le_refl _) _)
  have HP0 : Hid (Blk (w.alloc (.cells #[.slice sa0 sl sc0, .slice ea0 el ec0] 25)) w.heap.size 25 [.slice sa0 sl sc0, .slice ea0 el ec0]) := Lib.hid (Blk.new w 25 [.slice sa0 sl sc0, .slice ea0 el ec0])
  have HS0 := Lib.hid hS
  have HE0 := Lib.hid hE
  have HCC := Lib.hid hc
  clear hl hsl hel hok hS hE hc ham
  go_enter Try.func12, Try.ntmps12
  have p0 : (w.alloc (.cells #[.slice sa0 sl sc0, .slice ea0 el ec0] 25)).cell? ⟨w.heap.size, 0, none⟩ = some (.slice sa0 sl sc0) := HP0.out.cell 0
  have p1 : (w.alloc (.cells #[.slice sa0 sl sc0, .slice ea0 el ec0] 25)).cell? ⟨w.heap.size, 1, none⟩ = some (.slice ea0 el ec0) := HP0.out.cell 1
  go_wp2_with fail
  clear p0 p1
  refine (HL.out _).mono ?_
  rintro e V1 ⟨rfl, hB⟩
  have P1 := Lib.hid (HP0.out.below hB HP0.out.lt)
  have B1 := Lib.hid (B0.out.trans (hB.mono B0.out.size))
  clear hB B0 HL HP0
  have p0 : V1.cell? ⟨w.heap.size, 0, none⟩ = some (.slice sa0 sl sc0) := P1.out.cell 0
  have p1 : V1.cell? ⟨w.heap.size, 1, none⟩ = some (.slice ea0 el ec0) := P1.out.cell 1
  go_wp2_with fail
  clear p0 p1
  refine (wto_any sa0 sl sc0 ea0 el ec0 sp es V1 (HS0.out.below B1.out) (HE0.out.below B1.out) HSL.out HEL.out hs20 he30).mono ?_
  rintro e V2 ⟨sa1, sc1, ea1, ec1, rfl, hS1, hE1, hn1, hn2, hB⟩
  have B2 := Lib.hid (B1.out.trans (hB.mono B1.out.size))
  have HE1 := Lib.hid hE1
  clear hB P1 B1 hE1 hn1 hn2 hS1
  have hBo : Below V2.heap.size V2 (V2.alloc (.cells #[.slice sa1 sl sc1, .slice ea1 el ec1] 31)) := (Below.refl _ _).alloc (Nat.le_refl _) _
  have QV : Hid (Blk (V2.alloc (.cells #[.slice sa1 sl sc1, .slice ea1 el ec1] 31)) V2.heap.size 31 [.slice sa1 sl sc1, .slice ea1 el ec1]) := Lib.hid (Blk.new _ _ [.slice sa1 sl sc1, .slice ea1 el ec1])
  have BV := Lib.hid (B2.out.trans (hBo.mono B2.out.size))
  have EV := Lib.hid (HE1.out.below hBo)
  clear hBo B2 HE1 HS0 HE0
  go_upto_region 4 with fail
  generalize V2.alloc (.cells #[.slice sa1 sl sc1, .slice ea1 el ec1] 31) = V at QV BV EV ⊢
  generalize V2.heap.size = gq at QV ⊢
  have cQ0 := Blk.cell QV.out 0
  have cQ1 := Blk.cell QV.out 1
  simp only [List.getElem?_cons_zero, List.getElem?_cons_succ] at cQ0 cQ1
  go_wp2_with fail
  clear cQ0 cQ1
  refine (pall_any sa1 sl sc1 ea1 el ec1 es src goal amt V EV.out HEL.out (by omega) (by omega) HOK.out HAM.out).mono ?_
  rintro e Y1 ⟨hB, hP⟩
  have QY1 : Hid (Blk Y1 gq 31 [.slice sa1 sl sc1, .slice ea1 el ec1]) := Lib.hid (QV.out.below hB QV.out.lt)
  have EY1 : Hid (EdgeRow Y1 ea1 es) := Lib.hid (EV.out.below hB)
  have BY1 : Hid (Below w.heap.size w Y1) := Lib.hid (BV.out.trans (hB.mono BV.out.size))
  clear QV EV BV
  clear hB
  rcases hP with ⟨_, acc, a, c, hac, rfl, hrow, hrok⟩ | ⟨hz, _⟩
  rotate_left
  · exact absurd HCC.out.1 hz
  obtain ⟨bs, hbs⟩ : ∃ n, V.heap.size = n := ⟨_, rfl⟩
  rw [hbs] at hrow hrok
  have HAC := Lib.hid hac
  have h32 : acc.length ≤ 32 := by have h9 := wayL_length sl es src goal amt; rw [← hac, List.length_map] at h9; exact h9
  obtain ⟨N, hN⟩ : ∃ n, acc.length = n := ⟨_, rfl⟩
  rw [hN] at hrow h32 ⊢
  have HNN := Lib.hid hN
  clear hac hN hbs
  obtain rfl : N = 0 := by have h9 := congrArg List.length HAC.out; rw [List.length_map, HNN.out, HCC.out.2] at h9; exact h9
  clear hrow hrok h32
  have cQ0 := Blk.cell QY1.out 0
  have cQ1 := Blk.cell QY1.out 1
  simp only [List.getElem?_cons_zero, List.getElem?_cons_succ] at cQ0 cQ1
  go_wp2_with fail
  clear cQ0 cQ1
  refine (best_any sa1 sl sc1 ea1 el ec1 es src goal amt Y1 EY1.out HEL.out (by omega) (by omega) HOK.out HAM.out).mono ?_
  rintro e Y2 ⟨hB, hP⟩
  have QY2 : Hid (Blk Y2 gq 31 [.slice sa1 sl sc1, .slice ea1 el ec1]) := Lib.hid (QY1.out.below hB QY1.out.lt)
  have EY2 : Hid (EdgeRow Y2 ea1 es) := Lib.hid (EY1.out.below hB)
  have BY2 : Hid (Below w.heap.size w Y2) := Lib.hid (BY1.out.trans (hB.mono BY1.out.size))
  clear QY1 EY1 BY1
  clear hB
  rcases hP with ⟨h, _⟩ | ⟨_, _, rfl⟩ | ⟨_, h, _⟩
  · exact absurd HCC.out.1 h
  rotate_left
  · exact absurd HCC.out.2 h
  have hB : Below Y2.heap.size Y2 (Y2.alloc (.cells #[.slice none 0 0, .slice none 0 0, .slice none 0 0] 89)) := (Below.refl _ _).alloc (Nat.le_refl _) _
  have QY3 : Hid (Blk (Y2.alloc (.cells #[.slice none 0 0, .slice none 0 0, .slice none 0 0] 89)) gq 31 [.slice sa1 sl sc1, .slice ea1 el ec1]) := Lib.hid (QY2.out.below hB QY2.out.lt)
  have EY3 : Hid (EdgeRow (Y2.alloc (.cells #[.slice none 0 0, .slice none 0 0, .slice none 0 0] 89)) ea1 es) := Lib.hid (EY2.out.below hB)
  have BY3 : Hid (Below w.heap.size w (Y2.alloc (.cells #[.slice none 0 0, .slice none 0 0, .slice none 0 0] 89))) := Lib.hid (BY2.out.trans (hB.mono BY2.out.size))
  have KY3 : Hid (Blk (Y2.alloc (.cells #[.slice none 0 0, .slice none 0 0, .slice none 0 0] 89)) Y2.heap.size 89 [.slice none 0 0, .slice none 0 0, .slice none 0 0]) := Lib.hid (Blk.new _ _ [.slice none 0 0, .slice none 0 0, .slice none 0 0])
  clear hB QY2 EY2 BY2
  go_upto_region 8 with fail
  generalize (Y2.alloc (.cells #[.slice none 0 0, .slice none 0 0, .slice none 0 0] 89)) = Y3 at QY3 EY3 BY3 KY3 ⊢
  generalize Y2.heap.size = gb at KY3 ⊢
  go_wp2_with fail
  go_loopw [64] (fun s64 wd => s64 = .int .i64 0 ∧ Hid (Below w.heap.size w wd)) (fun _ _ => 0)
  case atStart => exact ⟨rfl, BY3⟩
  case round =>
    clear QY3 EY3 KY3 BY3
    obtain ⟨rfl, Br⟩ := hrel
    obtain ⟨wj, hwj⟩ : ∃ wj : World, wr = wj := ⟨_, rfl⟩
    rw [hwj] at Br ⊢
    clear hwj
    go_wp2_with fail
    refine (pawake_any _).mono ?_
    rintro e YZ ⟨rfl, hB⟩
    have BZ := Lib.hid (Br.out.trans (hB.mono Br.out.size))
    clear hB
    go_wp2
    go_ret
    exact ⟨rfl, BZ.out⟩

set_option maxRecDepth 100000 in
set_option maxHeartbeats 8000000 in
theorem sound_some (sa0 : Option Addr) (sl sc0 : Nat) (ea0 : Option Addr) (el ec0 : Nat) (sp : List (Int × Int)) (es : List Ed) (src goal amt : Int) (w : World) (hl : lightB sl el = true) (hsl : sp.length = sl) (hel : es.length = el) (hS : SpotRow w sa0 sp) (hE : EdgeRow w ea0 es) (hok : ∀ e ∈ es, EdOk e) (ham : Word amt) (hc : seekE sl es src goal amt = 0 ∧ wayL sl es src goal amt ≠ []) :
    Calls Try.prog 12 #[.agg #[.slice sa0 sl sc0, .slice ea0 el ec0], .int .i64 src, .int .i64 goal, .int .u64 amt] w (Ok w) := by
  have HSRC := Lib.hid (src_i64 hc.1 (by unfold lightB at hl; have := of_decide_eq_true hl; omega))
  have HGD := Lib.hid (way_good (sl := sl) (es := es) (src := src) (goal := goal) hok ham hc.1)
  have HL := Lib.hid (fun w => light_any sa0 sl sc0 ea0 el ec0 w)
  rw [hl] at HL
  have hlt : sl ≤ 20 ∧ el ≤ 30 := by unfold lightB at hl; exact of_decide_eq_true hl
  obtain ⟨hs20, he30⟩ := hlt
  have HSL := Lib.hid hsl
  have HEL := Lib.hid hel
  have HOK := Lib.hid hok
  have HAM := Lib.hid ham
  have B0 : Hid (Below w.heap.size w (w.alloc (.cells #[.slice sa0 sl sc0, .slice ea0 el ec0] 25))) := Lib.hid ((Below.refl _ _).alloc (Nat.le_refl _) _)
  have HP0 : Hid (Blk (w.alloc (.cells #[.slice sa0 sl sc0, .slice ea0 el ec0] 25)) w.heap.size 25 [.slice sa0 sl sc0, .slice ea0 el ec0]) := Lib.hid (Blk.new w 25 [.slice sa0 sl sc0, .slice ea0 el ec0])
  have HS0 := Lib.hid hS
  have HE0 := Lib.hid hE
  have HCC := Lib.hid hc
  clear hl hsl hel hok hS hE hc ham
  go_enter Try.func12, Try.ntmps12
  have p0 : (w.alloc (.cells #[.slice sa0 sl sc0, .slice ea0 el ec0] 25)).cell? ⟨w.heap.size, 0, none⟩ = some (.slice sa0 sl sc0) := HP0.out.cell 0
  have p1 : (w.alloc (.cells #[.slice sa0 sl sc0, .slice ea0 el ec0] 25)).cell? ⟨w.heap.size, 1, none⟩ = some (.slice ea0 el ec0) := HP0.out.cell 1
  go_wp2_with fail
  clear p0 p1
  refine (HL.out _).mono ?_
  rintro e V1 ⟨rfl, hB⟩
  have P1 := Lib.hid (HP0.out.below hB HP0.out.lt)
  have B1 := Lib.hid (B0.out.trans (hB.mono B0.out.size))
  clear hB B0 HL HP0
  have p0 : V1.cell? ⟨w.heap.size, 0, none⟩ = some (.slice sa0 sl sc0) := P1.out.cell 0
  have p1 : V1.cell? ⟨w.heap.size, 1, none⟩ = some (.slice ea0 el ec0) := P1.out.cell 1
  go_wp2_with fail
  clear p0 p1
  refine (wto_any sa0 sl sc0 ea0 el ec0 sp es V1 (HS0.out.below B1.out) (HE0.out.below B1.out) HSL.out HEL.out hs20 he30).mono ?_
  rintro e V2 ⟨sa1, sc1, ea1, ec1, rfl, hS1, hE1, hn1, hn2, hB⟩
  have B2 := Lib.hid (B1.out.trans (hB.mono B1.out.size))
  have HE1 := Lib.hid hE1
  clear hB P1 B1 hE1 hn1 hn2 hS1
  have hBo : Below V2.heap.size V2 (V2.alloc (.cells #[.slice sa1 sl sc1, .slice ea1 el ec1] 31)) := (Below.refl _ _).alloc (Nat.le_refl _) _
  have QV : Hid (Blk (V2.alloc (.cells #[.slice sa1 sl sc1, .slice ea1 el ec1] 31)) V2.heap.size 31 [.slice sa1 sl sc1, .slice ea1 el ec1]) := Lib.hid (Blk.new _ _ [.slice sa1 sl sc1, .slice ea1 el ec1])
  have BV := Lib.hid (B2.out.trans (hBo.mono B2.out.size))
  have EV := Lib.hid (HE1.out.below hBo)
  clear hBo B2 HE1 HS0 HE0
  go_upto_region 4 with fail
  generalize V2.alloc (.cells #[.slice sa1 sl sc1, .slice ea1 el ec1] 31) = V at QV BV EV ⊢
  generalize V2.heap.size = gq at QV ⊢
  have cQ0 := Blk.cell QV.out 0
  have cQ1 := Blk.cell QV.out 1
  simp only [List.getElem?_cons_zero, List.getElem?_cons_succ] at cQ0 cQ1
  go_wp2_with fail
  clear cQ0 cQ1
  refine (pall_any sa1 sl sc1 ea1 el ec1 es src goal amt V EV.out HEL.out (by omega) (by omega) HOK.out HAM.out).mono ?_
  rintro e Y1 ⟨hB, hP⟩
  have QY1 : Hid (Blk Y1 gq 31 [.slice sa1 sl sc1, .slice ea1 el ec1]) := Lib.hid (QV.out.below hB QV.out.lt)
  have EY1 : Hid (EdgeRow Y1 ea1 es) := Lib.hid (EV.out.below hB)
  have BY1 : Hid (Below w.heap.size w Y1) := Lib.hid (BV.out.trans (hB.mono BV.out.size))
  clear QV EV BV
  clear hB
  rcases hP with ⟨_, acc, a, c, hac, rfl, hrow, hrok⟩ | ⟨hz, _⟩
  rotate_left
  · exact absurd HCC.out.1 hz
  obtain ⟨bs, hbs⟩ : ∃ n, V.heap.size = n := ⟨_, rfl⟩
  rw [hbs] at hrow hrok
  have HAC := Lib.hid hac
  have h32 : acc.length ≤ 32 := by have h9 := wayL_length sl es src goal amt; rw [← hac, List.length_map] at h9; exact h9
  obtain ⟨N, hN⟩ : ∃ n, acc.length = n := ⟨_, rfl⟩
  rw [hN] at hrow h32 ⊢
  have HNN := Lib.hid hN
  clear hac hN hbs
  have RY1 : Hid (Y1.ownsRow bs 89 3 (.slice a N c) N (rtflat acc)) := Lib.hid (hrow)
  have OY1 : Hid (∀ r ∈ acc, RtOk Y1 bs amt r) := Lib.hid (hrok)
  have h0 : 0 < N := by have h9 := congrArg List.length HAC.out; rw [List.length_map, HNN.out] at h9; cases hw : wayL sl es src goal amt with | nil => exact absurd hw HCC.out.2 | cons q r => rw [hw] at h9; simp at h9; omega
  clear hrow hrok
  have cQ0 := Blk.cell QY1.out 0
  have cQ1 := Blk.cell QY1.out 1
  simp only [List.getElem?_cons_zero, List.getElem?_cons_succ] at cQ0 cQ1
  go_wp2_with fail
  clear cQ0 cQ1
  have hU : Y1.heap.size = Y1.heap.size := rfl
  refine (best_any sa1 sl sc1 ea1 el ec1 es src goal amt Y1 EY1.out HEL.out (by omega) (by omega) HOK.out HAM.out).mono ?_
  rintro e Y2 ⟨hB, hP⟩
  have QY2 : Hid (Blk Y2 gq 31 [.slice sa1 sl sc1, .slice ea1 el ec1]) := Lib.hid (QY1.out.below hB QY1.out.lt)
  have EY2 : Hid (EdgeRow Y2 ea1 es) := Lib.hid (EY1.out.below hB)
  have BY2 : Hid (Below w.heap.size w Y2) := Lib.hid (BY1.out.trans (hB.mono BY1.out.size))
  have RY2 : Hid (Y2.ownsRow bs 89 3 (.slice a N c) N (rtflat acc)) := Lib.hid (Mon.own_below RY1.out hB)
  have OY2 : Hid (∀ r ∈ acc, RtOk Y2 bs amt r) := Lib.hid (fun r hr => rt_below (OY1.out r hr) hB)
  clear QY1 EY1 BY1 RY1 OY1
  clear hB
  clear hU
  rcases hP with ⟨h, _⟩ | ⟨_, h, _⟩ | ⟨_, _, rb, hrb, rfl, hokb, hmb⟩
  · exact absurd HCC.out.1 h
  · exact absurd h HCC.out.2
  obtain ⟨bb, hbb, hcb⟩ := rt_first hokb ⟨(HGD.out rb.tr hmb).2.1, (HGD.out rb.tr hmb).2.2⟩
  obtain ⟨nb, ncb, gb0, gcb, ab, acb, lb, sb⟩ := rb
  simp only at hbb hcb ⊢
  subst hbb
  rw [hrb] at hcb
  obtain ⟨bf, hbf⟩ : ∃ x, firstE amt (bestL amt (wayL sl es src goal amt)) = x := ⟨_, rfl⟩
  rw [hbf] at hcb
  have HBF := Lib.hid hbf
  obtain ⟨n1, hn1⟩ : ∃ n, lb.length = n := ⟨_, rfl⟩
  obtain ⟨n2, hn2⟩ : ∃ n, sb.length = n := ⟨_, rfl⟩
  have Hgn2 : Hid ((0 : Int) < (n2 : Int)) := Lib.hid (by have h9 := (HGD.out _ hmb).2.1; simp only [Rt.tr] at h9; omega)
  have Hgn3 : Hid (0 < n2) := Lib.hid (by have h9 := Hgn2.out; omega)
  rw [hn1, hn2]
  have CY2 : Hid (Y2.cell? ⟨bb, 0, none⟩ = some (.int .u64 bf)) := Lib.hid (hcb)
  clear hrb hokb hmb hcb hbf hn1 hn2
  have hB : Below Y2.heap.size Y2 (Y2.alloc (.cells #[.slice nb n1 ncb, .slice gb0 n2 gcb, .slice (some ⟨bb, 0, none⟩) n2 acb] 89)) := (Below.refl _ _).alloc (Nat.le_refl _) _
  have QY3 : Hid (Blk (Y2.alloc (.cells #[.slice nb n1 ncb, .slice gb0 n2 gcb, .slice (some ⟨bb, 0, none⟩) n2 acb] 89)) gq 31 [.slice sa1 sl sc1, .slice ea1 el ec1]) := Lib.hid (QY2.out.below hB QY2.out.lt)
  have EY3 : Hid (EdgeRow (Y2.alloc (.cells #[.slice nb n1 ncb, .slice gb0 n2 gcb, .slice (some ⟨bb, 0, none⟩) n2 acb] 89)) ea1 es) := Lib.hid (EY2.out.below hB)
  have BY3 : Hid (Below w.heap.size w (Y2.alloc (.cells #[.slice nb n1 ncb, .slice gb0 n2 gcb, .slice (some ⟨bb, 0, none⟩) n2 acb] 89))) := Lib.hid (BY2.out.trans (hB.mono BY2.out.size))
  have RY3 : Hid ((Y2.alloc (.cells #[.slice nb n1 ncb, .slice gb0 n2 gcb, .slice (some ⟨bb, 0, none⟩) n2 acb] 89)).ownsRow bs 89 3 (.slice a N c) N (rtflat acc)) := Lib.hid (Mon.own_below RY2.out hB)
  have OY3 : Hid (∀ r ∈ acc, RtOk (Y2.alloc (.cells #[.slice nb n1 ncb, .slice gb0 n2 gcb, .slice (some ⟨bb, 0, none⟩) n2 acb] 89)) bs amt r) := Lib.hid (fun r hr => rt_below (OY2.out r hr) hB)
  have CY3 : Hid ((Y2.alloc (.cells #[.slice nb n1 ncb, .slice gb0 n2 gcb, .slice (some ⟨bb, 0, none⟩) n2 acb] 89)).cell? ⟨bb, 0, none⟩ = some (.int .u64 bf)) := Lib.hid ((hB.cell (p := ⟨bb, 0, none⟩) (World.block_lt_of_cell? _ _ CY2.out)).trans CY2.out)
  have KY3 : Hid (Blk (Y2.alloc (.cells #[.slice nb n1 ncb, .slice gb0 n2 gcb, .slice (some ⟨bb, 0, none⟩) n2 acb] 89)) Y2.heap.size 89 [.slice nb n1 ncb, .slice gb0 n2 gcb, .slice (some ⟨bb, 0, none⟩) n2 acb]) := Lib.hid (Blk.new _ _ [.slice nb n1 ncb, .slice gb0 n2 gcb, .slice (some ⟨bb, 0, none⟩) n2 acb])
  clear hB QY2 EY2 BY2 RY2 OY2 CY2
  go_upto_region 8 with fail
  generalize (Y2.alloc (.cells #[.slice nb n1 ncb, .slice gb0 n2 gcb, .slice (some ⟨bb, 0, none⟩) n2 acb] 89)) = Y3 at QY3 EY3 BY3 RY3 OY3 CY3 KY3 ⊢
  generalize Y2.heap.size = gb at KY3 ⊢
  have d1 : decide ((0 : Int) < (N : Int)) = true := decide_eq_true (by omega)
  have d2 : decide ((32 : Int) < (N : Int)) = false := decide_eq_false (by omega)
  have hNI : (0 : Int) < (N : Int) := by omega
  have hN32 : (N : Int) ≤ 32 := by omega
  go_wp2_with fail
  clear d1 d2
  go_loopw [64] (fun s64 wd => ∃ j : Nat, j ≤ N ∧ s64 = .int .i64 (j : Int) ∧ Hid (Blk wd gq 31 [.slice sa1 sl sc1, .slice ea1 el ec1]) ∧ Hid (EdgeRow wd ea1 es) ∧ Hid (Blk wd gb 89 [.slice nb n1 ncb, .slice gb0 n2 gcb, .slice (some ⟨bb, 0, none⟩) n2 acb]) ∧ Hid (wd.ownsRow bs 89 3 (.slice a N c) N (rtflat acc)) ∧ Hid (∀ r ∈ acc, RtOk wd bs amt r) ∧ Hid (wd.cell? ⟨bb, 0, none⟩ = some (.int .u64 bf)) ∧ Hid (Below w.heap.size w wd)) (fun j _ => N - (intOf j).toNat)
  case atStart => exact ⟨0, Nat.zero_le _, rfl, QY3, EY3, KY3, RY3, OY3, CY3, BY3⟩
  case round =>
    clear QY3 EY3 KY3 RY3 OY3 CY3 BY3
    obtain ⟨j, hj, rfl, Qw, Ew, Kw, Rw, Ow, Cw, Bw⟩ := hrel
    obtain ⟨wj, hwj⟩ : ∃ wj : World, wr = wj := ⟨_, rfl⟩
    rw [hwj] at Qw Ew Kw Rw Ow Cw Bw ⊢
    clear hwj
    by_cases hjl : j < N
    · have hjI : (j : Int) < (N : Int) := by omega
      obtain ⟨r, hr⟩ : ∃ r, acc[j]? = some r := ⟨acc[j]'(by rw [HNN.out]; exact hjl), List.getElem?_eq_getElem _⟩
      have hrm : r ∈ acc := List.mem_of_getElem? hr
      obtain ⟨ag, hag⟩ := own_some Rw.out h0
      subst hag
      obtain ⟨e0, e1, e2⟩ := own_cells3 Rw.out hr
      have hso : Sound sl es src goal amt r.tr := way_sound sl es src goal amt r.tr (by rw [← HAC.out]; exact List.mem_map_of_mem hrm)
      have hgd := HGD.out r.tr (by rw [← HAC.out]; exact List.mem_map_of_mem hrm)
      have hbl : bf ≤ firstE amt r.tr := by rw [← HBF.out]; exact bestL_le amt _ _ (by rw [← HAC.out]; exact List.mem_map_of_mem hrm)
      have HRO := Lib.hid (Ow.out r hrm)
      clear hr hrm
      obtain ⟨na, nc, ga, gc, aa, ac, l, s⟩ := r
      simp only [Rt.tr] at hso hgd hbl e0 e1 e2
      have HSO := Lib.hid hso
      have HBL := Lib.hid hbl
      have HGR := Lib.hid hgd
      obtain ⟨ns, hns⟩ : ∃ n, s.length = n := ⟨_, rfl⟩
      obtain ⟨nl, hnl⟩ : ∃ n, l.length = n := ⟨_, rfl⟩
      rw [hnl] at e0
      rw [hns] at e1 e2
      have hnl1 : nl = ns + 1 := by rw [← hnl, ← hns]; exact hso.leads.1
      have hns1 : 1 ≤ ns := by rw [← hns]; exact hgd.2.1
      have hns7 : ns ≤ 7 := by rw [← hns]; exact hso.few
      have HNS := Lib.hid hns
      have HNL := Lib.hid hnl
      have HNL1 := Lib.hid hnl1
      have hnlg : 0 < nl := by omega
      have hnsl : ns < nl := by omega
      have hnlb : nl ≤ 8 := by omega
      clear hso hgd hbl hns hnl hnl1
      have Qwj := Qw
      clear Qw
      have Ewj := Ew
      clear Ew
      have Kwj := Kw
      clear Kw
      have Rwj := Rw
      clear Rw
      have Owj := Ow
      clear Ow
      have Cwj := Cw
      clear Cw
      have Bwj := Bw
      clear Bw
      have Nwj : Hid (wj.ownsRow bs 3 1 (.slice na nl nc) nl (ins l)) := Lib.hid (by rw [← HNL.out]; exact HRO.out.1)
      have Gwj : Hid (wj.ownsRow bs 3 1 (.slice ga ns gc) ns (ins (stE s))) := Lib.hid (by rw [← HNS.out]; exact HRO.out.2.1)
      have Awj : Hid (wj.ownsRow bs 40 1 (.slice aa ns ac) ns (Mon.nums (amtsE amt s).2)) := Lib.hid (by rw [← HNS.out]; exact HRO.out.2.2)
      clear HRO
      have hB : Below wj.heap.size wj (wj.alloc (.cells #[.slice na nl nc, .slice ga ns gc, .slice aa ns ac] 89)) := (Below.refl _ _).alloc (Nat.le_refl _) _
      have QY1 : Hid (Blk (wj.alloc (.cells #[.slice na nl nc, .slice ga ns gc, .slice aa ns ac] 89)) gq 31 [.slice sa1 sl sc1, .slice ea1 el ec1]) := Lib.hid (Qwj.out.below hB Qwj.out.lt)
      have EY1 : Hid (EdgeRow (wj.alloc (.cells #[.slice na nl nc, .slice ga ns gc, .slice aa ns ac] 89)) ea1 es) := Lib.hid (Ewj.out.below hB)
      have KY1 : Hid (Blk (wj.alloc (.cells #[.slice na nl nc, .slice ga ns gc, .slice aa ns ac] 89)) gb 89 [.slice nb n1 ncb, .slice gb0 n2 gcb, .slice (some ⟨bb, 0, none⟩) n2 acb]) := Lib.hid (Kwj.out.below hB Kwj.out.lt)
      have RY1 : Hid ((wj.alloc (.cells #[.slice na nl nc, .slice ga ns gc, .slice aa ns ac] 89)).ownsRow bs 89 3 (.slice (some ⟨ag, 0, none⟩) N c) N (rtflat acc)) := Lib.hid (Mon.own_below Rwj.out hB)
      have OY1 : Hid (∀ r ∈ acc, RtOk (wj.alloc (.cells #[.slice na nl nc, .slice ga ns gc, .slice aa ns ac] 89)) bs amt r) := Lib.hid (fun r hr => rt_below (Owj.out r hr) hB)
      have CY1 : Hid ((wj.alloc (.cells #[.slice na nl nc, .slice ga ns gc, .slice aa ns ac] 89)).cell? ⟨bb, 0, none⟩ = some (.int .u64 bf)) := Lib.hid ((hB.cell (p := ⟨bb, 0, none⟩) (World.block_lt_of_cell? _ _ Cwj.out)).trans Cwj.out)
      have BY1 : Hid (Below w.heap.size w (wj.alloc (.cells #[.slice na nl nc, .slice ga ns gc, .slice aa ns ac] 89))) := Lib.hid (Bwj.out.trans (hB.mono Bwj.out.size))
      have NY1 : Hid ((wj.alloc (.cells #[.slice na nl nc, .slice ga ns gc, .slice aa ns ac] 89)).ownsRow bs 3 1 (.slice na nl nc) nl (ins l)) := Lib.hid (Mon.own_below Nwj.out hB)
      have GY1 : Hid ((wj.alloc (.cells #[.slice na nl nc, .slice ga ns gc, .slice aa ns ac] 89)).ownsRow bs 3 1 (.slice ga ns gc) ns (ins (stE s))) := Lib.hid (Mon.own_below Gwj.out hB)
      have AY1 : Hid ((wj.alloc (.cells #[.slice na nl nc, .slice ga ns gc, .slice aa ns ac] 89)).ownsRow bs 40 1 (.slice aa ns ac) ns (Mon.nums (amtsE amt s).2)) := Lib.hid (Mon.own_below Awj.out hB)
      have TY1 : Hid (Blk (wj.alloc (.cells #[.slice na nl nc, .slice ga ns gc, .slice aa ns ac] 89)) wj.heap.size 89 [.slice na nl nc, .slice ga ns gc, .slice aa ns ac]) := Lib.hid (Blk.new _ _ [.slice na nl nc, .slice ga ns gc, .slice aa ns ac])
      clear hB Qwj Ewj Kwj Rwj Owj Cwj Bwj Nwj Gwj Awj
      go_upto_region 13 with fail
      generalize (wj.alloc (.cells #[.slice na nl nc, .slice ga ns gc, .slice aa ns ac] 89)) = Y1 at QY1 EY1 KY1 RY1 OY1 CY1 BY1 NY1 GY1 AY1 TY1 ⊢
      generalize wj.heap.size = gt at TY1 ⊢
      clear e0 e1 e2
      have cT0 := Blk.cell TY1.out 0
      have cT1 := Blk.cell TY1.out 1
      have cT2 := Blk.cell TY1.out 2
      simp only [List.getElem?_cons_zero, List.getElem?_cons_succ] at cT0 cT1 cT2
      go_wp2_with fail
      clear cT0 cT1 cT2
      refine (long_any na ga aa nl nc ns gc ns ac Y1).mono ?_
      rintro e Y2 ⟨rfl, hB⟩
      have QY2 : Hid (Blk Y2 gq 31 [.slice sa1 sl sc1, .slice ea1 el ec1]) := Lib.hid (QY1.out.below hB QY1.out.lt)
      have EY2 : Hid (EdgeRow Y2 ea1 es) := Lib.hid (EY1.out.below hB)
      have KY2 : Hid (Blk Y2 gb 89 [.slice nb n1 ncb, .slice gb0 n2 gcb, .slice (some ⟨bb, 0, none⟩) n2 acb]) := Lib.hid (KY1.out.below hB KY1.out.lt)
      have RY2 : Hid (Y2.ownsRow bs 89 3 (.slice (some ⟨ag, 0, none⟩) N c) N (rtflat acc)) := Lib.hid (Mon.own_below RY1.out hB)
      have OY2 : Hid (∀ r ∈ acc, RtOk Y2 bs amt r) := Lib.hid (fun r hr => rt_below (OY1.out r hr) hB)
      have CY2 : Hid (Y2.cell? ⟨bb, 0, none⟩ = some (.int .u64 bf)) := Lib.hid ((hB.cell (p := ⟨bb, 0, none⟩) (World.block_lt_of_cell? _ _ CY1.out)).trans CY1.out)
      have BY2 : Hid (Below w.heap.size w Y2) := Lib.hid (BY1.out.trans (hB.mono BY1.out.size))
      have NY2 : Hid (Y2.ownsRow bs 3 1 (.slice na nl nc) nl (ins l)) := Lib.hid (Mon.own_below NY1.out hB)
      have GY2 : Hid (Y2.ownsRow bs 3 1 (.slice ga ns gc) ns (ins (stE s))) := Lib.hid (Mon.own_below GY1.out hB)
      have AY2 : Hid (Y2.ownsRow bs 40 1 (.slice aa ns ac) ns (Mon.nums (amtsE amt s).2)) := Lib.hid (Mon.own_below AY1.out hB)
      have TY2 : Hid (Blk Y2 gt 89 [.slice na nl nc, .slice ga ns gc, .slice aa ns ac]) := Lib.hid (TY1.out.below hB TY1.out.lt)
      clear QY1 EY1 KY1 RY1 OY1 CY1 BY1 NY1 GY1 AY1 TY1
      clear hB
      obtain ⟨ln, hln⟩ := own_some NY2.out (by omega)
      subst hln
      obtain ⟨lg, hlg⟩ := own_some GY2.out (by omega)
      subst hlg
      obtain ⟨la, hla⟩ := own_some AY2.out (by omega)
      subst hla
      obtain ⟨km, hkm⟩ : ∃ k, ns = k + 1 := ⟨ns - 1, by omega⟩
      have hkl : km < ns := by omega
      have HKM := Lib.hid hkm
      have HFA := Lib.hid (amts_falls HAM.out (fun q hq => step_words HOK.out HSO.out.leads q hq) HGR.out.2.1 HGR.out.1.1)
      obtain ⟨fx, hfx⟩ : ∃ x, (amtsE amt s).2.getD 0 0 = x := ⟨_, rfl⟩
      have HFX := Lib.hid hfx
      have hge : amt ≤ fx := by rw [← hfx]; exact amts_first HAM.out (fun q hq => step_words HOK.out HSO.out.leads q hq) HGR.out.2.1 HGR.out.1.1
      have hwf : Word fx := by rw [← hfx]; exact amts_word HAM.out (fun q hq => step_words HOK.out HSO.out.leads q hq) 0
      have hbf : bf ≤ fx := by have h9 := HBL.out; unfold firstE at h9; rw [hfx] at h9; exact h9
      clear hfx
      have x0 : Y2.cell? ⟨ln, 0, none⟩ = some (.int .i64 src) := (NY2.out.cellAt 0 (by omega)).trans (by rw [ins_at _ _ (by rw [HNL.out]; omega)]; simp only [HSO.out.leads.2.1])
      have x1 : Y2.cell? ⟨ln, ns, none⟩ = some (.int .i64 goal) := (NY2.out.cellAt ns (by omega)).trans (by rw [ins_at _ _ (by rw [HNL.out]; omega)]; have h9 := HSO.out.last; unfold lastI at h9; rw [HNL.out, HNL1.out] at h9; simp only [Nat.add_sub_cancel] at h9; rw [h9])
      have x2 : Y2.cell? ⟨la, km, none⟩ = some (.int .u64 amt) := (AY2.out.cellAt km (by omega)).trans (nums_at _ _ _ (by rw [HGR.out.2.2, HNS.out]; omega) (by have h9 := HFA.out.2; rw [HNS.out] at h9; rw [show km = ns - 1 from by have := HKM.out; omega]; exact h9))
      have x3 : Y2.cell? ⟨la, 0, none⟩ = some (.int .u64 fx) := (AY2.out.cellAt 0 (by omega)).trans (nums_at _ _ _ (by rw [HGR.out.2.2, HNS.out]; omega) HFX.out)
      have cT0 := Blk.cell TY2.out 0
      have cT1 := Blk.cell TY2.out 1
      have cT2 := Blk.cell TY2.out 2
      have cK0 := Blk.cell KY2.out 0
      have cK1 := Blk.cell KY2.out 1
      have cK2 := Blk.cell KY2.out 2
      simp only [List.getElem?_cons_zero, List.getElem?_cons_succ] at cT0 cT1 cT2 cK0 cK1 cK2
      have cC := CY2.out
      have g1 : decide ((ns : Int) < 1) = false := decide_eq_false (by omega)
      have g2 : decide ((7 : Int) < (ns : Int)) = false := decide_eq_false (by omega)
      have g3 : ((nl : Int) != (ns : Int) + 1) = false := by rw [HNL1.out]; simp
      have g4 : (ns : Int) - 1 = (km : Int) := by omega
      clear hkm
      have g5 : IntKind.u64.wrap (fx - amt) = fx - amt := by obtain ⟨h1, h2⟩ := hwf; obtain ⟨h3, h4⟩ := HAM.out; exact u64_wrap_id _ (by omega) (by omega)
      have g6 : decide (fx < bf) = false := decide_eq_false (by omega)
      have g7 : (ns : Int) < (nl : Int) := by have := HNL1.out; omega
      have g8 : (km : Int) < (ns : Int) := by omega
      have hn7I : (ns : Int) ≤ 7 := by omega
      have hn1I : (1 : Int) ≤ (ns : Int) := by omega
      have g9 : ns < nl := by have := HNL1.out; omega
      have g11 : (0 : Int) < (nl : Int) := by omega
      have g12 : 0 < nl := by omega
      have g13 : 0 < ns := by omega
      have g14 : (0 : Int) < (ns : Int) := by omega
      have h1 : IntKind.i64.wrap ((ns : Int) + 1) = (ns : Int) + 1 := IntWalk.i64_in _ (by omega)
      have h2 : IntKind.i64.wrap (km : Int) = (km : Int) := IntWalk.i64_in _ (by omega)
      have Hh1 := Lib.hid h1
      have Hh2 := Lib.hid h2
      have Hg11 := Lib.hid g11
      have Hg12 := Lib.hid g12
      have Hg13 := Lib.hid g13
      have Hg14 := Lib.hid g14
      clear hkl hnlg hnlb h1 h2
      have Hg1 := Lib.hid g1
      have Hg2 := Lib.hid g2
      have Hg3 := Lib.hid g3
      have Hg4 := Lib.hid g4
      have Hg5 := Lib.hid g5
      have Hg6 := Lib.hid g6
      have Hg7 := Lib.hid g7
      have Hg8 := Lib.hid g8
      have hWF := Lib.hid hwf
      have hGE := Lib.hid hge
      clear g1 g2 g3 g4 g5 g6 g7 g8 g9 g11 g12 g13 g14 hwf hge hbf hn7I hn1I
      have x0Y2 := Lib.hid x0
      have x1Y2 := Lib.hid x1
      have x2Y2 := Lib.hid x2
      have x3Y2 := Lib.hid x3
      clear cT0 cT1 cT2 cK0 cK1 cK2 x0 x1 x2 x3 cC
      go_upto_region 14 with fail
      have hBz : Below Y2.heap.size Y2 Y2.drew := below_drewN (Below.refl _ _) 1
      have QZ0 : Hid (Blk Y2.drew gq 31 [.slice sa1 sl sc1, .slice ea1 el ec1]) := Lib.hid (QY2.out.below hBz QY2.out.lt)
      have EZ0 : Hid (EdgeRow Y2.drew ea1 es) := Lib.hid (EY2.out.below hBz)
      have KZ0 : Hid (Blk Y2.drew gb 89 [.slice nb n1 ncb, .slice gb0 n2 gcb, .slice (some ⟨bb, 0, none⟩) n2 acb]) := Lib.hid (KY2.out.below hBz KY2.out.lt)
      have RZ0 : Hid (Y2.drew.ownsRow bs 89 3 (.slice (some ⟨ag, 0, none⟩) N c) N (rtflat acc)) := Lib.hid (Mon.own_below RY2.out hBz)
      have OZ0 : Hid (∀ r ∈ acc, RtOk Y2.drew bs amt r) := Lib.hid (fun r hr => rt_below (OY2.out r hr) hBz)
      have CZ0 : Hid (Y2.drew.cell? ⟨bb, 0, none⟩ = some (.int .u64 bf)) := Lib.hid ((hBz.cell (p := ⟨bb, 0, none⟩) (World.block_lt_of_cell? _ _ CY2.out)).trans CY2.out)
      have BZ0 : Hid (Below w.heap.size w Y2.drew) := Lib.hid (BY2.out.trans (hBz.mono BY2.out.size))
      have NZ0 : Hid (Y2.drew.ownsRow bs 3 1 (.slice (some ⟨ln, 0, none⟩) nl nc) nl (ins l)) := Lib.hid (Mon.own_below NY2.out hBz)
      have GZ0 : Hid (Y2.drew.ownsRow bs 3 1 (.slice (some ⟨lg, 0, none⟩) ns gc) ns (ins (stE s))) := Lib.hid (Mon.own_below GY2.out hBz)
      have AZ0 : Hid (Y2.drew.ownsRow bs 40 1 (.slice (some ⟨la, 0, none⟩) ns ac) ns (Mon.nums (amtsE amt s).2)) := Lib.hid (Mon.own_below AY2.out hBz)
      have TZ0 : Hid (Blk Y2.drew gt 89 [.slice (some ⟨ln, 0, none⟩) nl nc, .slice (some ⟨lg, 0, none⟩) ns gc, .slice (some ⟨la, 0, none⟩) ns ac]) := Lib.hid (TY2.out.below hBz TY2.out.lt)
      have x0Z0 : Hid (Y2.drew.cell? ⟨ln, 0, none⟩ = some (.int .i64 src)) := Lib.hid ((hBz.cell (p := ⟨ln, 0, none⟩) (World.block_lt_of_cell? _ _ x0Y2.out)).trans x0Y2.out)
      have x1Z0 : Hid (Y2.drew.cell? ⟨ln, ns, none⟩ = some (.int .i64 goal)) := Lib.hid ((hBz.cell (p := ⟨ln, ns, none⟩) (World.block_lt_of_cell? _ _ x1Y2.out)).trans x1Y2.out)
      have x2Z0 : Hid (Y2.drew.cell? ⟨la, km, none⟩ = some (.int .u64 amt)) := Lib.hid ((hBz.cell (p := ⟨la, km, none⟩) (World.block_lt_of_cell? _ _ x2Y2.out)).trans x2Y2.out)
      have x3Z0 : Hid (Y2.drew.cell? ⟨la, 0, none⟩ = some (.int .u64 fx)) := Lib.hid ((hBz.cell (p := ⟨la, 0, none⟩) (World.block_lt_of_cell? _ _ x3Y2.out)).trans x3Y2.out)
      clear hBz
      refine wp_region_held_drew (S := fun w' => Blk w' gt 89 [.slice (some ⟨ln, 0, none⟩) nl nc, .slice (some ⟨lg, 0, none⟩) ns gc, .slice (some ⟨la, 0, none⟩) ns ac] ∧ Blk w' gb 89 [.slice nb n1 ncb, .slice gb0 n2 gcb, .slice (some ⟨bb, 0, none⟩) n2 acb] ∧ w'.cell? ⟨ln, 0, none⟩ = some (.int .i64 src) ∧ w'.cell? ⟨ln, ns, none⟩ = some (.int .i64 goal) ∧ w'.cell? ⟨la, km, none⟩ = some (.int .u64 amt) ∧ w'.cell? ⟨la, 0, none⟩ = some (.int .u64 fx) ∧ w'.cell? ⟨bb, 0, none⟩ = some (.int .u64 bf)) (by kernel_rfl) (⟨TZ0.out, KZ0.out, x0Z0.out, x1Z0.out, x2Z0.out, x3Z0.out, CZ0.out⟩) (fun hHeld => ?_)
      generalize Y2.drew = Z0 at hHeld QZ0 EZ0 KZ0 RZ0 OZ0 CZ0 BZ0 NZ0 GZ0 AZ0 TZ0 x0Z0 x1Z0 x2Z0 x3Z0 ⊢
      refine wpAnyH_take (i := 0) (v := .int .i64 (ns : Int)) rfl (by kernel_rfl) (by kernel_rfl) (by kernel_rfl) (fun _ _ _ h => h) (Or.inl ⟨by rfl, fun w _ => by rfl⟩) hHeld ?_
      show wpAnyH _ _ _ _ _ _ _ (Act.put _ (some 70) _) _
      simp only [Act.put, List.setIfInBounds_toArray, List.set_cons_zero, List.set_cons_succ]
      refine wpAnyH_take (i := 1) (v := .bool false) rfl (by kernel_rfl) (by kernel_rfl) (by kernel_rfl) (fun _ _ _ h => h) (Or.inl ⟨by rfl, by intro w' h; have g1 := Hg1.out; go_simp⟩) hHeld ?_
      show wpAnyH _ _ _ _ _ _ _ (Act.put _ (some 71) _) _
      simp only [Act.put, List.setIfInBounds_toArray, List.set_cons_zero, List.set_cons_succ]
      refine wpAnyH_take (i := 2) (v := .bool false) rfl (by kernel_rfl) (by kernel_rfl) (by kernel_rfl) (fun _ _ _ h => h) (Or.inl ⟨by rfl, fun w _ => by rfl⟩) hHeld ?_
      show wpAnyH _ _ _ _ _ _ _ (Act.put _ (some 72) _) _
      simp only [Act.put, List.setIfInBounds_toArray, List.set_cons_zero, List.set_cons_succ]
      refine wpAnyH_take (i := 3) (v := .int .i64 (ns : Int)) rfl (by kernel_rfl) (by kernel_rfl) (by kernel_rfl) (fun _ _ _ h => h) (Or.inl ⟨by rfl, fun w _ => by rfl⟩) hHeld ?_
      show wpAnyH _ _ _ _ _ _ _ (Act.put _ (some 73) _) _
      simp only [Act.put, List.setIfInBounds_toArray, List.set_cons_zero, List.set_cons_succ]
      refine wpAnyH_take (i := 4) (v := .bool false) rfl (by kernel_rfl) (by kernel_rfl) (by kernel_rfl) (fun _ _ _ h => h) (Or.inl ⟨by rfl, by intro w' h; have g2 := Hg2.out; go_simp⟩) hHeld ?_
      show wpAnyH _ _ _ _ _ _ _ (Act.put _ (some 74) _) _
      simp only [Act.put, List.setIfInBounds_toArray, List.set_cons_zero, List.set_cons_succ]
      refine wpAnyH_take (i := 5) (v := .bool false) rfl (by kernel_rfl) (by kernel_rfl) (by kernel_rfl) (fun _ _ _ h => h) (Or.inl ⟨by rfl, by intro w hSw; first | rfl | go_simp⟩) hHeld ?_
      show wpAnyH _ _ _ _ _ _ _ (Act.put _ (some 75) _) _
      simp only [Act.put, List.setIfInBounds_toArray, List.set_cons_zero, List.set_cons_succ]
      refine wpAnyH_take (i := 6) (v := .bool false) rfl (by kernel_rfl) (by kernel_rfl) (by kernel_rfl) (fun _ _ _ h => h) (Or.inl ⟨by rfl, fun w _ => by rfl⟩) hHeld ?_
      show wpAnyH _ _ _ _ _ _ _ (Act.put _ (some 76) _) _
      simp only [Act.put, List.setIfInBounds_toArray, List.set_cons_zero, List.set_cons_succ]
      refine wpAnyH_take (i := 7) (v := .pointer (some ⟨gt, 0, none⟩)) rfl (by kernel_rfl) (by kernel_rfl) (by kernel_rfl) (fun _ _ _ h => h) (Or.inl ⟨by rfl, by intro w' h; go_simp⟩) hHeld ?_
      show wpAnyH _ _ _ _ _ _ _ (Act.put _ (some 77) _) _
      simp only [Act.put, List.setIfInBounds_toArray, List.set_cons_zero, List.set_cons_succ]
      refine wpAnyH_take (i := 8) (v := .slice (some ⟨ln, 0, none⟩) nl nc) rfl (by kernel_rfl) (by kernel_rfl) (by kernel_rfl) (fun _ _ _ h => h) (Or.inl ⟨by rfl, by intro w' h; have k0 := Blk.cell h.1 0; simp only [List.getElem?_cons_zero] at k0; go_simp⟩) hHeld ?_
      show wpAnyH _ _ _ _ _ _ _ (Act.put _ (some 78) _) _
      simp only [Act.put, List.setIfInBounds_toArray, List.set_cons_zero, List.set_cons_succ]
      refine wpAnyH_take (i := 9) (v := .int .i64 (nl : Int)) rfl (by kernel_rfl) (by kernel_rfl) (by kernel_rfl) (fun _ _ _ h => h) (Or.inl ⟨by rfl, by intro w' h; go_simp⟩) hHeld ?_
      show wpAnyH _ _ _ _ _ _ _ (Act.put _ (some 79) _) _
      simp only [Act.put, List.setIfInBounds_toArray, List.set_cons_zero, List.set_cons_succ]
      refine wpAnyH_take (i := 10) (v := .int .i64 (ns : Int)) rfl (by kernel_rfl) (by kernel_rfl) (by kernel_rfl) (fun _ _ _ h => h) (Or.inl ⟨by rfl, fun w _ => by rfl⟩) hHeld ?_
      show wpAnyH _ _ _ _ _ _ _ (Act.put _ (some 80) _) _
      simp only [Act.put, List.setIfInBounds_toArray, List.set_cons_zero, List.set_cons_succ]
      refine wpAnyH_take (i := 11) (v := .int .i64 ((ns : Int) + 1)) rfl (by kernel_rfl) (by kernel_rfl) (by kernel_rfl) (fun _ _ _ h => h) (Or.inl ⟨by rfl, by intro w' h; have h1 := Hh1.out; go_simp⟩) hHeld ?_
      show wpAnyH _ _ _ _ _ _ _ (Act.put _ (some 81) _) _
      simp only [Act.put, List.setIfInBounds_toArray, List.set_cons_zero, List.set_cons_succ]
      refine wpAnyH_take (i := 12) (v := .bool false) rfl (by kernel_rfl) (by kernel_rfl) (by kernel_rfl) (fun _ _ _ h => h) (Or.inl ⟨by rfl, by intro w' h; have g3 := Hg3.out; go_simp⟩) hHeld ?_
      show wpAnyH _ _ _ _ _ _ _ (Act.put _ (some 82) _) _
      simp only [Act.put, List.setIfInBounds_toArray, List.set_cons_zero, List.set_cons_succ]
      refine wpAnyH_take (i := 13) (v := .bool false) rfl (by kernel_rfl) (by kernel_rfl) (by kernel_rfl) (fun _ _ _ h => h) (Or.inl ⟨by rfl, by intro w hSw; first | rfl | go_simp⟩) hHeld ?_
      show wpAnyH _ _ _ _ _ _ _ (Act.put _ (some 83) _) _
      simp only [Act.put, List.setIfInBounds_toArray, List.set_cons_zero, List.set_cons_succ]
      refine wpAnyH_take (i := 14) (v := .bool false) rfl (by kernel_rfl) (by kernel_rfl) (by kernel_rfl) (fun _ _ _ h => h) (Or.inl ⟨by rfl, fun w _ => by rfl⟩) hHeld ?_
      show wpAnyH _ _ _ _ _ _ _ (Act.put _ (some 84) _) _
      simp only [Act.put, List.setIfInBounds_toArray, List.set_cons_zero, List.set_cons_succ]
      refine wpAnyH_take (i := 15) (v := .pointer (some ⟨gt, 2, none⟩)) rfl (by kernel_rfl) (by kernel_rfl) (by kernel_rfl) (fun _ _ _ h => h) (Or.inl ⟨by rfl, by intro w' h; go_simp⟩) hHeld ?_
      show wpAnyH _ _ _ _ _ _ _ (Act.put _ (some 85) _) _
      simp only [Act.put, List.setIfInBounds_toArray, List.set_cons_zero, List.set_cons_succ]
      refine wpAnyH_take (i := 16) (v := .slice (some ⟨la, 0, none⟩) ns ac) rfl (by kernel_rfl) (by kernel_rfl) (by kernel_rfl) (fun _ _ _ h => h) (Or.inl ⟨by rfl, by intro w' h; have k0 := Blk.cell h.1 2; simp only [List.getElem?_cons_zero, List.getElem?_cons_succ] at k0; go_simp⟩) hHeld ?_
      show wpAnyH _ _ _ _ _ _ _ (Act.put _ (some 86) _) _
      simp only [Act.put, List.setIfInBounds_toArray, List.set_cons_zero, List.set_cons_succ]
      refine wpAnyH_take (i := 17) (v := .int .i64 (ns : Int)) rfl (by kernel_rfl) (by kernel_rfl) (by kernel_rfl) (fun _ _ _ h => h) (Or.inl ⟨by rfl, by intro w' h; go_simp⟩) hHeld ?_
      show wpAnyH _ _ _ _ _ _ _ (Act.put _ (some 87) _) _
      simp only [Act.put, List.setIfInBounds_toArray, List.set_cons_zero, List.set_cons_succ]
      refine wpAnyH_take (i := 18) (v := .int .i64 (ns : Int)) rfl (by kernel_rfl) (by kernel_rfl) (by kernel_rfl) (fun _ _ _ h => h) (Or.inl ⟨by rfl, fun w _ => by rfl⟩) hHeld ?_
      show wpAnyH _ _ _ _ _ _ _ (Act.put _ (some 88) _) _
      simp only [Act.put, List.setIfInBounds_toArray, List.set_cons_zero, List.set_cons_succ]
      refine wpAnyH_take (i := 19) (v := .bool false) rfl (by kernel_rfl) (by kernel_rfl) (by kernel_rfl) (fun _ _ _ h => h) (Or.inl ⟨by rfl, by intro w' h; go_simp⟩) hHeld ?_
      show wpAnyH _ _ _ _ _ _ _ (Act.put _ (some 89) _) _
      simp only [Act.put, List.setIfInBounds_toArray, List.set_cons_zero, List.set_cons_succ]
      refine wpAnyH_take (i := 20) (v := .bool false) rfl (by kernel_rfl) (by kernel_rfl) (by kernel_rfl) (fun _ _ _ h => h) (Or.inl ⟨by rfl, by intro w hSw; first | rfl | go_simp⟩) hHeld ?_
      show wpAnyH _ _ _ _ _ _ _ (Act.put _ (some 90) _) _
      simp only [Act.put, List.setIfInBounds_toArray, List.set_cons_zero, List.set_cons_succ]
      refine wpAnyH_take (i := 21) (v := .bool false) rfl (by kernel_rfl) (by kernel_rfl) (by kernel_rfl) (fun _ _ _ h => h) (Or.inl ⟨by rfl, fun w _ => by rfl⟩) hHeld ?_
      show wpAnyH _ _ _ _ _ _ _ (Act.put _ (some 91) _) _
      simp only [Act.put, List.setIfInBounds_toArray, List.set_cons_zero, List.set_cons_succ]
      refine wpAnyH_take (i := 22) (v := .pointer (some ⟨gt, 0, none⟩)) rfl (by kernel_rfl) (by kernel_rfl) (by kernel_rfl) (fun _ _ _ h => h) (Or.inl ⟨by rfl, by intro w' h; go_simp⟩) hHeld ?_
      show wpAnyH _ _ _ _ _ _ _ (Act.put _ (some 92) _) _
      simp only [Act.put, List.setIfInBounds_toArray, List.set_cons_zero, List.set_cons_succ]
      refine wpAnyH_take (i := 23) (v := .slice (some ⟨ln, 0, none⟩) nl nc) rfl (by kernel_rfl) (by kernel_rfl) (by kernel_rfl) (fun _ _ _ h => h) (Or.inl ⟨by rfl, by intro w' h; have k0 := Blk.cell h.1 0; simp only [List.getElem?_cons_zero] at k0; go_simp⟩) hHeld ?_
      show wpAnyH _ _ _ _ _ _ _ (Act.put _ (some 93) _) _
      simp only [Act.put, List.setIfInBounds_toArray, List.set_cons_zero, List.set_cons_succ]
      refine wpAnyH_take (i := 24) (v := .pointer (some ⟨ln, 0, none⟩)) rfl (by kernel_rfl) (by kernel_rfl) (by kernel_rfl) (fun _ _ _ h => h) (Or.inl ⟨by rfl, by intro w' h; have g11 := Hg11.out; have g12 := Hg12.out; go_simp⟩) hHeld ?_
      show wpAnyH _ _ _ _ _ _ _ (Act.put _ (some 94) _) _
      simp only [Act.put, List.setIfInBounds_toArray, List.set_cons_zero, List.set_cons_succ]
      refine wpAnyH_take (i := 25) (v := .int .i64 src) rfl (by kernel_rfl) (by kernel_rfl) (by kernel_rfl) (fun _ _ _ h => h) (Or.inl ⟨by rfl, by intro w' h; have q9 := h.2.2.1; go_simp⟩) hHeld ?_
      show wpAnyH _ _ _ _ _ _ _ (Act.put _ (some 95) _) _
      simp only [Act.put, List.setIfInBounds_toArray, List.set_cons_zero, List.set_cons_succ]
      refine wpAnyH_take (i := 26) (v := .int .i64 src) rfl (by kernel_rfl) (by kernel_rfl) (by kernel_rfl) (fun _ _ _ h => h) (Or.inl ⟨by rfl, fun w _ => by rfl⟩) hHeld ?_
      show wpAnyH _ _ _ _ _ _ _ (Act.put _ (some 96) _) _
      simp only [Act.put, List.setIfInBounds_toArray, List.set_cons_zero, List.set_cons_succ]
      refine wpAnyH_take (i := 27) (v := .bool false) rfl (by kernel_rfl) (by kernel_rfl) (by kernel_rfl) (fun _ _ _ h => h) (Or.inl ⟨by rfl, by intro w' h; go_simp⟩) hHeld ?_
      show wpAnyH _ _ _ _ _ _ _ (Act.put _ (some 97) _) _
      simp only [Act.put, List.setIfInBounds_toArray, List.set_cons_zero, List.set_cons_succ]
      refine wpAnyH_take (i := 28) (v := .bool false) rfl (by kernel_rfl) (by kernel_rfl) (by kernel_rfl) (fun _ _ _ h => h) (Or.inl ⟨by rfl, by intro w hSw; first | rfl | go_simp⟩) hHeld ?_
      show wpAnyH _ _ _ _ _ _ _ (Act.put _ (some 98) _) _
      simp only [Act.put, List.setIfInBounds_toArray, List.set_cons_zero, List.set_cons_succ]
      refine wpAnyH_take (i := 29) (v := .bool false) rfl (by kernel_rfl) (by kernel_rfl) (by kernel_rfl) (fun _ _ _ h => h) (Or.inl ⟨by rfl, fun w _ => by rfl⟩) hHeld ?_
      show wpAnyH _ _ _ _ _ _ _ (Act.put _ (some 99) _) _
      simp only [Act.put, List.setIfInBounds_toArray, List.set_cons_zero, List.set_cons_succ]
      refine wpAnyH_take (i := 30) (v := .pointer (some ⟨gt, 0, none⟩)) rfl (by kernel_rfl) (by kernel_rfl) (by kernel_rfl) (fun _ _ _ h => h) (Or.inl ⟨by rfl, by intro w' h; go_simp⟩) hHeld ?_
      show wpAnyH _ _ _ _ _ _ _ (Act.put _ (some 100) _) _
      simp only [Act.put, List.setIfInBounds_toArray, List.set_cons_zero, List.set_cons_succ]
      refine wpAnyH_take (i := 31) (v := .slice (some ⟨ln, 0, none⟩) nl nc) rfl (by kernel_rfl) (by kernel_rfl) (by kernel_rfl) (fun _ _ _ h => h) (Or.inl ⟨by rfl, by intro w' h; have k0 := Blk.cell h.1 0; simp only [List.getElem?_cons_zero] at k0; go_simp⟩) hHeld ?_
      show wpAnyH _ _ _ _ _ _ _ (Act.put _ (some 101) _) _
      simp only [Act.put, List.setIfInBounds_toArray, List.set_cons_zero, List.set_cons_succ]
      refine wpAnyH_take (i := 32) (v := .int .i64 (ns : Int)) rfl (by kernel_rfl) (by kernel_rfl) (by kernel_rfl) (fun _ _ _ h => h) (Or.inl ⟨by rfl, fun w _ => by rfl⟩) hHeld ?_
      show wpAnyH _ _ _ _ _ _ _ (Act.put _ (some 102) _) _
      simp only [Act.put, List.setIfInBounds_toArray, List.set_cons_zero, List.set_cons_succ]
      refine wpAnyH_take (i := 33) (v := .pointer (some ⟨ln, ns, none⟩)) rfl (by kernel_rfl) (by kernel_rfl) (by kernel_rfl) (fun _ _ _ h => h) (Or.inl ⟨by rfl, by intro w' h; have g7 := Hg7.out; go_simp⟩) hHeld ?_
      show wpAnyH _ _ _ _ _ _ _ (Act.put _ (some 103) _) _
      simp only [Act.put, List.setIfInBounds_toArray, List.set_cons_zero, List.set_cons_succ]
      refine wpAnyH_take (i := 34) (v := .int .i64 goal) rfl (by kernel_rfl) (by kernel_rfl) (by kernel_rfl) (fun _ _ _ h => h) (Or.inl ⟨by rfl, by intro w' h; have q9 := h.2.2.2.1; go_simp⟩) hHeld ?_
      show wpAnyH _ _ _ _ _ _ _ (Act.put _ (some 104) _) _
      simp only [Act.put, List.setIfInBounds_toArray, List.set_cons_zero, List.set_cons_succ]
      refine wpAnyH_take (i := 35) (v := .int .i64 goal) rfl (by kernel_rfl) (by kernel_rfl) (by kernel_rfl) (fun _ _ _ h => h) (Or.inl ⟨by rfl, fun w _ => by rfl⟩) hHeld ?_
      show wpAnyH _ _ _ _ _ _ _ (Act.put _ (some 105) _) _
      simp only [Act.put, List.setIfInBounds_toArray, List.set_cons_zero, List.set_cons_succ]
      refine wpAnyH_take (i := 36) (v := .bool false) rfl (by kernel_rfl) (by kernel_rfl) (by kernel_rfl) (fun _ _ _ h => h) (Or.inl ⟨by rfl, by intro w' h; go_simp⟩) hHeld ?_
      show wpAnyH _ _ _ _ _ _ _ (Act.put _ (some 106) _) _
      simp only [Act.put, List.setIfInBounds_toArray, List.set_cons_zero, List.set_cons_succ]
      refine wpAnyH_take (i := 37) (v := .bool false) rfl (by kernel_rfl) (by kernel_rfl) (by kernel_rfl) (fun _ _ _ h => h) (Or.inl ⟨by rfl, by intro w hSw; first | rfl | go_simp⟩) hHeld ?_
      show wpAnyH _ _ _ _ _ _ _ (Act.put _ (some 107) _) _
      simp only [Act.put, List.setIfInBounds_toArray, List.set_cons_zero, List.set_cons_succ]
      refine wpAnyH_take (i := 38) (v := .bool false) rfl (by kernel_rfl) (by kernel_rfl) (by kernel_rfl) (fun _ _ _ h => h) (Or.inl ⟨by rfl, fun w _ => by rfl⟩) hHeld ?_
      show wpAnyH _ _ _ _ _ _ _ (Act.put _ (some 108) _) _
      simp only [Act.put, List.setIfInBounds_toArray, List.set_cons_zero, List.set_cons_succ]
      refine wpAnyH_take (i := 39) (v := .pointer (some ⟨gt, 2, none⟩)) rfl (by kernel_rfl) (by kernel_rfl) (by kernel_rfl) (fun _ _ _ h => h) (Or.inl ⟨by rfl, by intro w' h; go_simp⟩) hHeld ?_
      show wpAnyH _ _ _ _ _ _ _ (Act.put _ (some 109) _) _
      simp only [Act.put, List.setIfInBounds_toArray, List.set_cons_zero, List.set_cons_succ]
      refine wpAnyH_take (i := 40) (v := .slice (some ⟨la, 0, none⟩) ns ac) rfl (by kernel_rfl) (by kernel_rfl) (by kernel_rfl) (fun _ _ _ h => h) (Or.inl ⟨by rfl, by intro w' h; have k0 := Blk.cell h.1 2; simp only [List.getElem?_cons_zero, List.getElem?_cons_succ] at k0; go_simp⟩) hHeld ?_
      show wpAnyH _ _ _ _ _ _ _ (Act.put _ (some 110) _) _
      simp only [Act.put, List.setIfInBounds_toArray, List.set_cons_zero, List.set_cons_succ]
      refine wpAnyH_take (i := 41) (v := .int .i64 (ns : Int)) rfl (by kernel_rfl) (by kernel_rfl) (by kernel_rfl) (fun _ _ _ h => h) (Or.inl ⟨by rfl, fun w _ => by rfl⟩) hHeld ?_
      show wpAnyH _ _ _ _ _ _ _ (Act.put _ (some 111) _) _
      simp only [Act.put, List.setIfInBounds_toArray, List.set_cons_zero, List.set_cons_succ]
      refine wpAnyH_take (i := 42) (v := .int .i64 (km : Int)) rfl (by kernel_rfl) (by kernel_rfl) (by kernel_rfl) (fun _ _ _ h => h) (Or.inl ⟨by rfl, by intro w' h; go_simp; first | done | (simp [Hg4.out, Hh2.out]) | (rw [Hg4.out, Hh2.out])⟩) hHeld ?_
      show wpAnyH _ _ _ _ _ _ _ (Act.put _ (some 112) _) _
      simp only [Act.put, List.setIfInBounds_toArray, List.set_cons_zero, List.set_cons_succ]
      refine wpAnyH_take (i := 43) (v := .pointer (some ⟨la, km, none⟩)) rfl (by kernel_rfl) (by kernel_rfl) (by kernel_rfl) (fun _ _ _ h => h) (Or.inl ⟨by rfl, by intro w' h; have g8 := Hg8.out; go_simp⟩) hHeld ?_
      show wpAnyH _ _ _ _ _ _ _ (Act.put _ (some 113) _) _
      simp only [Act.put, List.setIfInBounds_toArray, List.set_cons_zero, List.set_cons_succ]
      refine wpAnyH_take (i := 44) (v := .int .u64 amt) rfl (by kernel_rfl) (by kernel_rfl) (by kernel_rfl) (fun _ _ _ h => h) (Or.inl ⟨by rfl, by intro w' h; have q9 := h.2.2.2.2.1; go_simp⟩) hHeld ?_
      show wpAnyH _ _ _ _ _ _ _ (Act.put _ (some 114) _) _
      simp only [Act.put, List.setIfInBounds_toArray, List.set_cons_zero, List.set_cons_succ]
      refine wpAnyH_take (i := 45) (v := .int .u64 amt) rfl (by kernel_rfl) (by kernel_rfl) (by kernel_rfl) (fun _ _ _ h => h) (Or.inl ⟨by rfl, fun w _ => by rfl⟩) hHeld ?_
      show wpAnyH _ _ _ _ _ _ _ (Act.put _ (some 115) _) _
      simp only [Act.put, List.setIfInBounds_toArray, List.set_cons_zero, List.set_cons_succ]
      refine wpAnyH_take (i := 46) (v := .bool false) rfl (by kernel_rfl) (by kernel_rfl) (by kernel_rfl) (fun _ _ _ h => h) (Or.inl ⟨by rfl, by intro w' h; go_simp⟩) hHeld ?_
      show wpAnyH _ _ _ _ _ _ _ (Act.put _ (some 116) _) _
      simp only [Act.put, List.setIfInBounds_toArray, List.set_cons_zero, List.set_cons_succ]
      refine wpAnyH_take (i := 47) (v := .bool false) rfl (by kernel_rfl) (by kernel_rfl) (by kernel_rfl) (fun _ _ _ h => h) (Or.inl ⟨by rfl, by intro w hSw; first | rfl | go_simp⟩) hHeld ?_
      show wpAnyH _ _ _ _ _ _ _ (Act.put _ (some 117) _) _
      simp only [Act.put, List.setIfInBounds_toArray, List.set_cons_zero, List.set_cons_succ]
      refine wpAnyH_take (i := 48) (v := .bool false) rfl (by kernel_rfl) (by kernel_rfl) (by kernel_rfl) (fun _ _ _ h => h) (Or.inl ⟨by rfl, fun w _ => by rfl⟩) hHeld ?_
      show wpAnyH _ _ _ _ _ _ _ (Act.put _ (some 118) _) _
      simp only [Act.put, List.setIfInBounds_toArray, List.set_cons_zero, List.set_cons_succ]
      refine wpAnyH_take (i := 49) (v := .agg #[.slice (some ⟨ln, 0, none⟩) nl nc, .slice (some ⟨lg, 0, none⟩) ns gc, .slice (some ⟨la, 0, none⟩) ns ac]) rfl (by kernel_rfl) (by kernel_rfl) (by kernel_rfl) (fun _ _ _ h => h) (Or.inl ⟨by rfl, by intro w' h; have k0 := Blk.cell h.1 0; have k1 := Blk.cell h.1 1; have k2 := Blk.cell h.1 2; simp only [List.getElem?_cons_zero, List.getElem?_cons_succ] at k0 k1 k2; go_simp⟩) hHeld ?_
      show wpAnyH _ _ _ _ _ _ _ (Act.put _ (some 119) _) _
      simp only [Act.put, List.setIfInBounds_toArray, List.set_cons_zero, List.set_cons_succ]
      refine wpAnyH_take (i := 51) (v := .pointer (some ⟨gt, 2, none⟩)) rfl (by kernel_rfl) (by kernel_rfl) (by kernel_rfl) (fun _ _ _ h => h) (Or.inl ⟨by rfl, by intro w' h; go_simp⟩) hHeld ?_
      show wpAnyH _ _ _ _ _ _ _ (Act.put _ (some 121) _) _
      simp only [Act.put, List.setIfInBounds_toArray, List.set_cons_zero, List.set_cons_succ]
      refine wpAnyH_take (i := 52) (v := .slice (some ⟨la, 0, none⟩) ns ac) rfl (by kernel_rfl) (by kernel_rfl) (by kernel_rfl) (fun _ _ _ h => h) (Or.inl ⟨by rfl, by intro w' h; have k0 := Blk.cell h.1 2; simp only [List.getElem?_cons_zero, List.getElem?_cons_succ] at k0; go_simp⟩) hHeld ?_
      show wpAnyH _ _ _ _ _ _ _ (Act.put _ (some 122) _) _
      simp only [Act.put, List.setIfInBounds_toArray, List.set_cons_zero, List.set_cons_succ]
      refine wpAnyH_take (i := 53) (v := .pointer (some ⟨la, 0, none⟩)) rfl (by kernel_rfl) (by kernel_rfl) (by kernel_rfl) (fun _ _ _ h => h) (Or.inl ⟨by rfl, by intro w' h; have g13 := Hg13.out; have g14 := Hg14.out; go_simp⟩) hHeld ?_
      show wpAnyH _ _ _ _ _ _ _ (Act.put _ (some 123) _) _
      simp only [Act.put, List.setIfInBounds_toArray, List.set_cons_zero, List.set_cons_succ]
      refine wpAnyH_take (i := 54) (v := .int .u64 fx) rfl (by kernel_rfl) (by kernel_rfl) (by kernel_rfl) (fun _ _ _ h => h) (Or.inl ⟨by rfl, by intro w' h; have q9 := h.2.2.2.2.2.1; go_simp⟩) hHeld ?_
      show wpAnyH _ _ _ _ _ _ _ (Act.put _ (some 124) _) _
      simp only [Act.put, List.setIfInBounds_toArray, List.set_cons_zero, List.set_cons_succ]
      refine wpAnyH_take (i := 55) (v := .int .u64 amt) rfl (by kernel_rfl) (by kernel_rfl) (by kernel_rfl) (fun _ _ _ h => h) (Or.inl ⟨by rfl, fun w _ => by rfl⟩) hHeld ?_
      show wpAnyH _ _ _ _ _ _ _ (Act.put _ (some 125) _) _
      simp only [Act.put, List.setIfInBounds_toArray, List.set_cons_zero, List.set_cons_succ]
      refine wpAnyH_take (i := 56) (v := .int .u64 (fx - amt)) rfl (by kernel_rfl) (by kernel_rfl) (by kernel_rfl) (fun _ _ _ h => h) (Or.inl ⟨by rfl, by intro w' h; have g5 := Hg5.out; go_simp⟩) hHeld ?_
      show wpAnyH _ _ _ _ _ _ _ (Act.put _ (some 126) _) _
      simp only [Act.put, List.setIfInBounds_toArray, List.set_cons_zero, List.set_cons_succ]
      refine wpAnyH_ready (rs := [50]) (by kernel_rfl) (by simp) ?_
      refine AllReadyH.cons rfl (fun K hK => ?_) AllReadyH.nil
      refine step_call rfl 45 #[.tmp 119] #[89] rfl #[.agg #[.slice (some ⟨ln, 0, none⟩) nl nc, .slice (some ⟨lg, 0, none⟩) ns gc, .slice (some ⟨la, 0, none⟩) ns ac]] (by simp [Act.eval]) (by go_simp) (rfees_any (some ⟨ln, 0, none⟩) (some ⟨lg, 0, none⟩) nl nc ns gc la ns km ac fx amt Z0 HKM.out (by omega) hWF.out HAM.out x3Z0.out x2Z0.out) ?_
      rintro e X1 ⟨rfl, hB⟩
      rw [show subV fx amt = fx - amt from if_neg (by have := hGE.out; omega)]
      have QX1 : Hid (Blk X1 gq 31 [.slice sa1 sl sc1, .slice ea1 el ec1]) := Lib.hid (QZ0.out.below hB QZ0.out.lt)
      have EX1 : Hid (EdgeRow X1 ea1 es) := Lib.hid (EZ0.out.below hB)
      have KX1 : Hid (Blk X1 gb 89 [.slice nb n1 ncb, .slice gb0 n2 gcb, .slice (some ⟨bb, 0, none⟩) n2 acb]) := Lib.hid (KZ0.out.below hB KZ0.out.lt)
      have RX1 : Hid (X1.ownsRow bs 89 3 (.slice (some ⟨ag, 0, none⟩) N c) N (rtflat acc)) := Lib.hid (Mon.own_below RZ0.out hB)
      have OX1 : Hid (∀ r ∈ acc, RtOk X1 bs amt r) := Lib.hid (fun r hr => rt_below (OZ0.out r hr) hB)
      have CX1 : Hid (X1.cell? ⟨bb, 0, none⟩ = some (.int .u64 bf)) := Lib.hid ((hB.cell (p := ⟨bb, 0, none⟩) (World.block_lt_of_cell? _ _ CZ0.out)).trans CZ0.out)
      have BX1 : Hid (Below w.heap.size w X1) := Lib.hid (BZ0.out.trans (hB.mono BZ0.out.size))
      have NX1 : Hid (X1.ownsRow bs 3 1 (.slice (some ⟨ln, 0, none⟩) nl nc) nl (ins l)) := Lib.hid (Mon.own_below NZ0.out hB)
      have GX1 : Hid (X1.ownsRow bs 3 1 (.slice (some ⟨lg, 0, none⟩) ns gc) ns (ins (stE s))) := Lib.hid (Mon.own_below GZ0.out hB)
      have AX1 : Hid (X1.ownsRow bs 40 1 (.slice (some ⟨la, 0, none⟩) ns ac) ns (Mon.nums (amtsE amt s).2)) := Lib.hid (Mon.own_below AZ0.out hB)
      have TX1 : Hid (Blk X1 gt 89 [.slice (some ⟨ln, 0, none⟩) nl nc, .slice (some ⟨lg, 0, none⟩) ns gc, .slice (some ⟨la, 0, none⟩) ns ac]) := Lib.hid (TZ0.out.below hB TZ0.out.lt)
      have x0X1 : Hid (X1.cell? ⟨ln, 0, none⟩ = some (.int .i64 src)) := Lib.hid ((hB.cell (p := ⟨ln, 0, none⟩) (World.block_lt_of_cell? _ _ x0Z0.out)).trans x0Z0.out)
      have x1X1 : Hid (X1.cell? ⟨ln, ns, none⟩ = some (.int .i64 goal)) := Lib.hid ((hB.cell (p := ⟨ln, ns, none⟩) (World.block_lt_of_cell? _ _ x1Z0.out)).trans x1Z0.out)
      have x2X1 : Hid (X1.cell? ⟨la, km, none⟩ = some (.int .u64 amt)) := Lib.hid ((hB.cell (p := ⟨la, km, none⟩) (World.block_lt_of_cell? _ _ x2Z0.out)).trans x2Z0.out)
      have x3X1 : Hid (X1.cell? ⟨la, 0, none⟩ = some (.int .u64 fx)) := Lib.hid ((hB.cell (p := ⟨la, 0, none⟩) (World.block_lt_of_cell? _ _ x3Z0.out)).trans x3Z0.out)
      clear QZ0 EZ0 KZ0 RZ0 OZ0 CZ0 BZ0 NZ0 GZ0 AZ0 TZ0 x0Z0 x1Z0 x2Z0 x3Z0 hB
      refine ⟨_, rfl, hK.out _ _ (⟨TX1.out, KX1.out, x0X1.out, x1X1.out, x2X1.out, x3X1.out, CX1.out⟩) (fun hHeld => ?_)⟩
      clear hK K
      show wpAnyH _ _ _ _ _ _ _ (Act.put _ (some 120) _) _
      simp only [Act.put, List.setIfInBounds_toArray, List.set_cons_zero, List.set_cons_succ]
      refine wpAnyH_take (i := 57) (v := .bool false) rfl (by kernel_rfl) (by kernel_rfl) (by kernel_rfl) (fun _ _ _ h => h) (Or.inl ⟨by rfl, by intro w' h; go_simp⟩) hHeld ?_
      show wpAnyH _ _ _ _ _ _ _ (Act.put _ (some 127) _) _
      simp only [Act.put, List.setIfInBounds_toArray, List.set_cons_zero, List.set_cons_succ]
      refine wpAnyH_take (i := 58) (v := .bool false) rfl (by kernel_rfl) (by kernel_rfl) (by kernel_rfl) (fun _ _ _ h => h) (Or.inl ⟨by rfl, by intro w hSw; first | rfl | go_simp⟩) hHeld ?_
      show wpAnyH _ _ _ _ _ _ _ (Act.put _ (some 128) _) _
      simp only [Act.put, List.setIfInBounds_toArray, List.set_cons_zero, List.set_cons_succ]
      refine wpAnyH_take (i := 59) (v := .bool false) rfl (by kernel_rfl) (by kernel_rfl) (by kernel_rfl) (fun _ _ _ h => h) (Or.inl ⟨by rfl, fun w _ => by rfl⟩) hHeld ?_
      show wpAnyH _ _ _ _ _ _ _ (Act.put _ (some 129) _) _
      simp only [Act.put, List.setIfInBounds_toArray, List.set_cons_zero, List.set_cons_succ]
      refine wpAnyH_take (i := 60) (v := .pointer (some ⟨gt, 2, none⟩)) rfl (by kernel_rfl) (by kernel_rfl) (by kernel_rfl) (fun _ _ _ h => h) (Or.inl ⟨by rfl, by intro w' h; go_simp⟩) hHeld ?_
      show wpAnyH _ _ _ _ _ _ _ (Act.put _ (some 130) _) _
      simp only [Act.put, List.setIfInBounds_toArray, List.set_cons_zero, List.set_cons_succ]
      refine wpAnyH_take (i := 61) (v := .slice (some ⟨la, 0, none⟩) ns ac) rfl (by kernel_rfl) (by kernel_rfl) (by kernel_rfl) (fun _ _ _ h => h) (Or.inl ⟨by rfl, by intro w' h; have k0 := Blk.cell h.1 2; simp only [List.getElem?_cons_zero, List.getElem?_cons_succ] at k0; go_simp⟩) hHeld ?_
      show wpAnyH _ _ _ _ _ _ _ (Act.put _ (some 131) _) _
      simp only [Act.put, List.setIfInBounds_toArray, List.set_cons_zero, List.set_cons_succ]
      refine wpAnyH_take (i := 62) (v := .pointer (some ⟨la, 0, none⟩)) rfl (by kernel_rfl) (by kernel_rfl) (by kernel_rfl) (fun _ _ _ h => h) (Or.inl ⟨by rfl, by intro w' h; have g13 := Hg13.out; have g14 := Hg14.out; go_simp⟩) hHeld ?_
      show wpAnyH _ _ _ _ _ _ _ (Act.put _ (some 132) _) _
      simp only [Act.put, List.setIfInBounds_toArray, List.set_cons_zero, List.set_cons_succ]
      refine wpAnyH_take (i := 63) (v := .int .u64 fx) rfl (by kernel_rfl) (by kernel_rfl) (by kernel_rfl) (fun _ _ _ h => h) (Or.inl ⟨by rfl, by intro w' h; have q9 := h.2.2.2.2.2.1; go_simp⟩) hHeld ?_
      show wpAnyH _ _ _ _ _ _ _ (Act.put _ (some 133) _) _
      simp only [Act.put, List.setIfInBounds_toArray, List.set_cons_zero, List.set_cons_succ]
      refine wpAnyH_take (i := 64) (v := .pointer (some ⟨gb, 2, none⟩)) rfl (by kernel_rfl) (by kernel_rfl) (by kernel_rfl) (fun _ _ _ h => h) (Or.inl ⟨by rfl, by intro w' h; go_simp⟩) hHeld ?_
      show wpAnyH _ _ _ _ _ _ _ (Act.put _ (some 134) _) _
      simp only [Act.put, List.setIfInBounds_toArray, List.set_cons_zero, List.set_cons_succ]
      refine wpAnyH_take (i := 65) (v := .slice (some ⟨bb, 0, none⟩) n2 acb) rfl (by kernel_rfl) (by kernel_rfl) (by kernel_rfl) (fun _ _ _ h => h) (Or.inl ⟨by rfl, by intro w' h; have k0 := Blk.cell h.2.1 2; simp only [List.getElem?_cons_zero, List.getElem?_cons_succ] at k0; go_simp⟩) hHeld ?_
      show wpAnyH _ _ _ _ _ _ _ (Act.put _ (some 135) _) _
      simp only [Act.put, List.setIfInBounds_toArray, List.set_cons_zero, List.set_cons_succ]
      refine wpAnyH_take (i := 66) (v := .pointer (some ⟨bb, 0, none⟩)) rfl (by kernel_rfl) (by kernel_rfl) (by kernel_rfl) (fun _ _ _ h => h) (Or.inl ⟨by rfl, by intro w' h; have gn2 := Hgn2.out; have gn3 := Hgn3.out; go_simp⟩) hHeld ?_
      show wpAnyH _ _ _ _ _ _ _ (Act.put _ (some 136) _) _
      simp only [Act.put, List.setIfInBounds_toArray, List.set_cons_zero, List.set_cons_succ]
      refine wpAnyH_take (i := 67) (v := .int .u64 bf) rfl (by kernel_rfl) (by kernel_rfl) (by kernel_rfl) (fun _ _ _ h => h) (Or.inl ⟨by rfl, by intro w' h; have q9 := h.2.2.2.2.2.2; go_simp⟩) hHeld ?_
      show wpAnyH _ _ _ _ _ _ _ (Act.put _ (some 137) _) _
      simp only [Act.put, List.setIfInBounds_toArray, List.set_cons_zero, List.set_cons_succ]
      refine wpAnyH_take (i := 68) (v := .bool false) rfl (by kernel_rfl) (by kernel_rfl) (by kernel_rfl) (fun _ _ _ h => h) (Or.inl ⟨by rfl, by intro w' h; have g6 := Hg6.out; go_simp⟩) hHeld ?_
      show wpAnyH _ _ _ _ _ _ _ (Act.put _ (some 138) _) _
      simp only [Act.put, List.setIfInBounds_toArray, List.set_cons_zero, List.set_cons_succ]
      refine wpAnyH_take (i := 69) (v := .bool false) rfl (by kernel_rfl) (by kernel_rfl) (by kernel_rfl) (fun _ _ _ h => h) (Or.inl ⟨by rfl, by intro w hSw; first | rfl | go_simp⟩) hHeld ?_
      show wpAnyH _ _ _ _ _ _ _ (Act.put _ (some 139) _) _
      simp only [Act.put, List.setIfInBounds_toArray, List.set_cons_zero, List.set_cons_succ]
      refine wpAnyH_done (by kernel_rfl) ?_ _
      clear hHeld
      clear x0X1 x1X1 x2X1 x3X1
      have hmm := @run_makeMap Try.prog
      have hB : Below X1.heap.size X1 (X1.alloc (.map #[] 0)) := (Below.refl _ _).alloc (Nat.le_refl _) _
      have QM0 : Hid (Blk (X1.alloc (.map #[] 0)) gq 31 [.slice sa1 sl sc1, .slice ea1 el ec1]) := Lib.hid (QX1.out.below hB QX1.out.lt)
      have EM0 : Hid (EdgeRow (X1.alloc (.map #[] 0)) ea1 es) := Lib.hid (EX1.out.below hB)
      have KM0 : Hid (Blk (X1.alloc (.map #[] 0)) gb 89 [.slice nb n1 ncb, .slice gb0 n2 gcb, .slice (some ⟨bb, 0, none⟩) n2 acb]) := Lib.hid (KX1.out.below hB KX1.out.lt)
      have RM0 : Hid ((X1.alloc (.map #[] 0)).ownsRow bs 89 3 (.slice (some ⟨ag, 0, none⟩) N c) N (rtflat acc)) := Lib.hid (Mon.own_below RX1.out hB)
      have OM0 : Hid (∀ r ∈ acc, RtOk (X1.alloc (.map #[] 0)) bs amt r) := Lib.hid (fun r hr => rt_below (OX1.out r hr) hB)
      have CM0 : Hid ((X1.alloc (.map #[] 0)).cell? ⟨bb, 0, none⟩ = some (.int .u64 bf)) := Lib.hid ((hB.cell (p := ⟨bb, 0, none⟩) (World.block_lt_of_cell? _ _ CX1.out)).trans CX1.out)
      have BM0 : Hid (Below w.heap.size w (X1.alloc (.map #[] 0))) := Lib.hid (BX1.out.trans (hB.mono BX1.out.size))
      have NM0 : Hid ((X1.alloc (.map #[] 0)).ownsRow bs 3 1 (.slice (some ⟨ln, 0, none⟩) nl nc) nl (ins l)) := Lib.hid (Mon.own_below NX1.out hB)
      have GM0 : Hid ((X1.alloc (.map #[] 0)).ownsRow bs 3 1 (.slice (some ⟨lg, 0, none⟩) ns gc) ns (ins (stE s))) := Lib.hid (Mon.own_below GX1.out hB)
      have AM0 : Hid ((X1.alloc (.map #[] 0)).ownsRow bs 40 1 (.slice (some ⟨la, 0, none⟩) ns ac) ns (Mon.nums (amtsE amt s).2)) := Lib.hid (Mon.own_below AX1.out hB)
      have TM0 : Hid (Blk (X1.alloc (.map #[] 0)) gt 89 [.slice (some ⟨ln, 0, none⟩) nl nc, .slice (some ⟨lg, 0, none⟩) ns gc, .slice (some ⟨la, 0, none⟩) ns ac]) := Lib.hid (TX1.out.below hB TX1.out.lt)
      have MM0 : Hid (SMap (X1.alloc (.map #[] 0)) X1.heap.size []) := Lib.hid (SMap.new X1)
      have hgm : w.heap.size ≤ X1.heap.size := BX1.out.size
      clear hB QX1 EX1 KX1 RX1 OX1 CX1 BX1 NX1 GX1 AX1 TX1
      have t0 : (X1.alloc (.map #[] 0)).cell? ⟨gt, 0, none⟩ = some (.slice (some ⟨ln, 0, none⟩) nl nc) := TM0.out.cell 0
      go_upto_block 2 with fail
      clear t0 hmm
      generalize (X1.alloc (.map #[] 0)) = M0 at QM0 EM0 KM0 RM0 OM0 CM0 BM0 NM0 GM0 AM0 TM0 MM0 ⊢
      generalize X1.heap.size = gm at MM0 hgm ⊢
      refine inner_any HSO HOK HSRC HEL HNL HNS HNL1 HGR HFA hnsl QM0 EM0 KM0 RM0 OM0 CM0 BM0 NM0 GM0 AM0 TM0 MM0 hgm (fun _ _ _ _ _ h => h) (fun wd Qz Ez Kz Rz Oz Cz Bz => ?_)
      go_wp2
      go_roundw
      case rel => exact ⟨j + 1, by omega, by go_num, Qz, Ez, Kz, Rz, Oz, Cz, Bz⟩
      case measure => exact meas N j hjl
    · have hjn : N = j := Nat.le_antisymm (Nat.le_of_not_lt hjl) hj
      subst hjn
      go_wp2_with fail
      refine (pawake_any _).mono ?_
      rintro e YZ ⟨rfl, hB⟩
      have BZ := Lib.hid (Bw.out.trans (hB.mono Bw.out.size))
      clear hB
      go_wp2
      go_ret
      exact ⟨rfl, BZ.out⟩

set_option maxRecDepth 100000 in
theorem lifted (os : Os) (started : os.Started) (H : Type) (enc : TypeId × Value → H) :
    ReturnsInHanded {} Try.checked os 12 .any (Rows.pathSoundSpec.pre6 enc Try.prog Try.f12 Rows.pathSoundRow.domain false) (Rows.pathSoundSpec.post enc Try.prog Try.f12 false true false false) := by
  refine returnsInHanded_of_change (C := Try.checked) own started (by kernel_rfl) Try.func12
    (ChangeSpec.witness6 (enc := enc) (C := Try.checked) false ⟨#[], #[.agg #[.slice none 0 0, .slice none 0 0], .int .i64 0, .int .i64 0, .int .u64 0], []⟩ 8 (by kernel_rfl) (by kernel_rfl) (by kernel_rfl) (by kernel_rfl)) ?_
  intro W base args ds gs before hval0 hW hcnd _
  have hval : ∀ (j : Nat) t v, Try.f12.params[j]? = some t → args[j]? = some v → Value.okWide Try.prog W .any base t v := hval0
  have hW' := hW
  obtain ⟨p, q, hA0, hV, rfl, hfz, hnd⟩ := hW
  have hA : DataW.TrodAll enc Try.prog W 0 (fun _ => true) true Try.f12.params.toList args.toList ds p := hA0
  rw [Try.params12] at hA hval
  obtain ⟨v0, vs0, dd0, ds0, p0, q0, hargs, rfl, rfl, h0, r0⟩ := trodAll_cons hA
  obtain ⟨v1, vs1, dd1, ds1, p1, q1, rfl, rfl, rfl, h1, r1⟩ := trodAll_cons r0
  obtain ⟨v2, vs2, dd2, ds2, p2, q2, rfl, rfl, rfl, h2, r2⟩ := trodAll_cons r1
  obtain ⟨v3, vs3, dd3, ds3, p3, q3, rfl, rfl, rfl, h3, r3⟩ := trodAll_cons r2
  obtain ⟨rfl, rfl, rfl⟩ := trodAll_nil r3
  obtain rfl : args = #[v0, v1, v2, v3] := by cases args; simp_all
  obtain ⟨rfl, rfl⟩ := trodVars_none hV
  have k0 := h0
  have lt0 : ∀ x ∈ p0, x.block < W.heap.size := by obtain ⟨m, hm⟩ := k0; exact DataW.trod_lt m _ _ _ hm
  obtain ⟨A0, l0, c0, B0, m0, d0, sp0, es0, rfl, hsp0, hes0, hS0, hE0, hok0, hm0, hn0⟩ := openWeb (hval 0 25 v0 rfl rfl) h0
  obtain ⟨a1, rfl, rfl, rfl, w1⟩ := open_int Try.underlying3 (hval 1 3 v1 rfl rfl) h1
  obtain ⟨a2, rfl, rfl, rfl, w2⟩ := open_int Try.underlying3 (hval 2 3 v2 rfl rfl) h2
  obtain ⟨a3, rfl, rfl, rfl, w3⟩ := open_int Try.underlying40 (hval 3 40 v3 rfl rfl) h3
  clear hA0 hval0
  refine Calls.mono (R := Ok W) ?_ fun e W1 ⟨he, bel⟩ => ?_
  · skip
    show Calls Try.prog 12 _ W (Ok W)
    by_cases h : lightB l0 m0 = true
    · by_cases hz : seekE l0 es0 a1 a2 a3 = 0
      · by_cases hw : wayL l0 es0 a1 a2 a3 = []
        · exact sound_none A0 l0 c0 B0 m0 d0 sp0 es0 a1 a2 a3 W h hsp0 hes0 hS0 hE0 hok0 (word_wf w3) ⟨hz, hw⟩
        · exact sound_some A0 l0 c0 B0 m0 d0 sp0 es0 a1 a2 a3 W h hsp0 hes0 hS0 hE0 hok0 (word_wf w3) ⟨hz, hw⟩
      · exact sound_err A0 l0 c0 B0 m0 d0 sp0 es0 a1 a2 a3 W h hsp0 hes0 hS0 hE0 hok0 (word_wf w3) hz
    · exact sound_dark A0 l0 c0 B0 m0 d0 a1 a2 a3 W (by simpa using h)
  subst he
  exact ⟨_, rfl, _, _, _, [], _, [], hW', trodAll_mk1 (shut_bool Try.underlying4 _), (trodAll_cons_mk (Below.trod laidOut (by kernel_rfl) (of_decide_eq_true (by kernel_rfl)) k0 bel lt0) (trodAll_cons_mk (shut_int Try.underlying3 w1) (trodAll_cons_mk (shut_int Try.underlying3 w2) (trodAll_cons_mk (shut_int Try.underlying40 w3) trodAll_mk0)))), rfl, bel.frame _, fun h => by cases h⟩

theorem proved : Rows.PathSoundSaid :=
  OpenClaim.holds_of_wide 12 Try.f12 rfl rfl rfl rfl rfl rfl rfl ⟨rfl, rfl, rfl, rfl, rfl⟩ rfl rfl rfl rfl rfl (by kernel_rfl) Try.func12 (by kernel_rfl)
    (of_decide_eq_true (by kernel_rfl)) (by unfold Func.isWrapper; first | (rw [if_pos (by decide +kernel)]; kernel_rfl) | (rw [if_neg (by decide +kernel)]; exact ⟨rfl, rfl⟩))
    (fun os started H enc _ => lifted os started H enc)
#print axioms proved
end Go.Proofs.Ytnnimjaigciedaa.pathSound
