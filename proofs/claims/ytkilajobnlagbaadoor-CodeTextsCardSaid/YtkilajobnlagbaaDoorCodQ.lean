/-
  awake: the document's examples.
-/
import Derived.Test.YtkilajobnlagbaaDoorCodP
import Derived.Test.YtkilajobnlagbaaDoorCodR
namespace Go.Proofs.YtkilajobnlagbaaDoor
open Go.RowKit
set_option linter.unusedVariables false

def exT : ByteArray := ⟨#[112, 117, 115, 104, 32, 50, 10, 112, 117, 115, 104, 32, 51, 10, 108, 101, 115, 115, 10, 104, 97, 108, 116]⟩
def exL : List ByteArray := [⟨#[112, 117, 115, 104, 32, 50]⟩, ⟨#[112, 117, 115, 104, 32, 51]⟩, ⟨#[108, 101, 115, 115]⟩, ⟨#[104, 97, 108, 116]⟩]
def exB : List (List Int) := [[1, 0, 0, 0, 0, 0, 0, 0, 2], [1, 0, 0, 0, 0, 0, 0, 0, 3], [6], [0]]
def exP : List Int := [1, 0, 0, 0, 0, 0, 0, 0, 2, 1, 0, 0, 0, 0, 0, 0, 0, 3, 6, 0]
theorem exP_eq : exB.flatten = exP := by decide
theorem ex_split : Lib.splitB ⟨#[10]⟩ 0 (Lib.countB exT ⟨#[10]⟩) exT = exL := by decide +kernel
theorem ex_count : Lib.countB exT ⟨#[10]⟩ + 1 = exL.length := by decide +kernel
theorem ex_check : (ordsV exP).1 = 0 := by decide +kernel
theorem line0 : LineOk ⟨#[112, 117, 115, 104, 32, 50]⟩ [1, 0, 0, 0, 0, 0, 0, 0, 2] := fun W HM HT HP =>
  parseLine_num8 _ 1 W (by decide) HM HT (by decide +kernel) (by decide +kernel) (by decide) rfl (by decide +kernel) 2 (by decide +kernel) (by decide) (by decide +kernel) (by decide +kernel) HP
theorem line1 : LineOk ⟨#[112, 117, 115, 104, 32, 51]⟩ [1, 0, 0, 0, 0, 0, 0, 0, 3] := fun W HM HT HP =>
  parseLine_num8 _ 1 W (by decide) HM HT (by decide +kernel) (by decide +kernel) (by decide) rfl (by decide +kernel) 3 (by decide +kernel) (by decide) (by decide +kernel) (by decide +kernel) HP
theorem line2 : LineOk ⟨#[108, 101, 115, 115]⟩ [6] := fun W HM HT HP =>
  parseLine_plain _ 6 W (by decide) HM HT (by decide +kernel) (by decide +kernel) (by decide) rfl (by decide +kernel)
theorem line3 : LineOk ⟨#[104, 97, 108, 116]⟩ [0] := fun W HM HT HP =>
  parseLine_plain _ 0 W (by decide) HM HT (by decide +kernel) (by decide +kernel) (by decide) rfl (by decide +kernel)
theorem ex_ok : ∀ i, i < exL.length → LineOk (exL.getD i ⟨#[]⟩) (exB.getD i [])
  | 0, _ => line0
  | 1, _ => line1
  | 2, _ => line2
  | 3, _ => line3
theorem parse_ex (w : World) (HM : Hid (MCell w)) (HT : Hid (KTab w)) (HPT : Hid (PTab w)) : Calls Tryd.prog 16 #[.string exT] w (LnPost w exP) := by
  have := parse_ok exT exL exB w HM HT HPT (by decide) (by decide) ex_split ex_count rfl ex_ok (by rw [exP_eq]; exact ex_check) (by rw [exP_eq]; decide) (by decide)
  rw [exP_eq] at this
  exact this
theorem frow_nil (w : World) : Hid (FRow w none 0 []) := Lib.hid ⟨rfl, by simp, by simp⟩
theorem brow_nil (w : World) : Hid (BRow w none 0 []) := Lib.hid ⟨rfl, by simp⟩
theorem run_ex (A : Option Addr) (c : Nat) (w : World) (HP : Hid (Pg w A 20 c exP)) (HT : Hid (KTab w)) :
    Calls Tryd.prog 11 #[.slice A 20 c, .agg #[.slice none 0 0, .slice none 0 0, .int .u64 0], .int .i64 100] w fun e w' => e = .returned (.tuple #[.int .u64 1, .int .i64 4, .int .i64 0]) ∧ Below w.heap.size w w' := by
  have := run_any A 20 c exP none 0 0 none 0 0 0 [] [] 100 w HP HT (frow_nil w) (brow_nil w) ⟨by decide, by decide⟩ (by decide) (by decide)
  have e : runV exP [] [] 0 100 = (1, 4, 0) := runV_ex
  rw [e] at this
  exact this
theorem run_exJ (A : Option Addr) (c : Nat) (w : World) (HP : Hid (Pg w A 3 c [11, 0, 0])) (HT : Hid (KTab w)) :
    Calls Tryd.prog 11 #[.slice A 3 c, .agg #[.slice none 0 0, .slice none 0 0, .int .u64 0], .int .i64 50] w fun e w' => ∃ x y, e = .returned (.tuple #[.int .u64 x, .int .i64 y, .int .i64 24]) ∧ Below w.heap.size w w' := by
  refine (run_any A 3 c [11, 0, 0] none 0 0 none 0 0 0 [] [] 50 w HP HT (frow_nil w) (brow_nil w) ⟨by decide, by decide⟩ (by decide) (by decide)).mono ?_
  rintro e w' ⟨rfl, hB⟩
  refine ⟨(runV [11, 0, 0] [] [] 0 50).1, ((runV [11, 0, 0] [] [] 0 50).2.1 : Nat), ?_, hB⟩
  unfold retV
  rw [runV_jump]
theorem pg_lit3 (w : World) (x y z : Int) (hx : 0 ≤ x ∧ x < 256) (hy : 0 ≤ y ∧ y < 256) (hz : 0 ≤ z ∧ z < 256) : Pg (w.alloc (.cells #[.int .u8 x, .int .u8 y, .int .u8 z] 5)) (some ⟨w.heap.size, 0, none⟩) 3 3 [x, y, z] :=
  ⟨rfl, Nat.le_refl _, by decide, by intro b hb; simp at hb; rcases hb with rfl | rfl | rfl <;> assumption, Oct.Src.lit w _ [x, y, z] rfl⟩

set_option maxRecDepth 100000 in
set_option maxHeartbeats 4000000 in
theorem awake_any (w : World) (HM : Hid (MCell w)) (HT : Hid (KTab w)) (HPT : Hid (PTab w)) :
    Calls Tryd.prog 10 #[] w fun e w' => e = .returned (.bool true) ∧ Below w.heap.size w w' := by
  have HX := Lib.hid (parse_ex w HM HT HPT)
  unfold exT at HX
  go_enter Tryd.func10, Tryd.ntmps10
  go_wp2_with fail
  refine HX.out.mono ?_
  rintro e w1 ⟨v, rfl, hO, hB⟩
  obtain ⟨A, c, rfl, hP⟩ := own_pg hO (by decide)
  rw [show exP.length = 20 from rfl] at hP ⊢
  have HP1 := Lib.hid hP
  have HB1 := Lib.hid hB
  have HT1 : Hid (KTab w1) := Lib.hid (HT.out.below hB HT.out.lt)
  clear hO hB hP HX
  go_wp2_with fail
  refine (run_ex A c w1 HP1 HT1).mono ?_
  rintro e w2 ⟨rfl, hB2⟩
  have HB2 := Lib.hid (HB1.out.trans (hB2.mono HB1.out.size))
  clear hB2 HB1 HP1 HT1
  go_wp2_with fail
  have hB3 : Below w2.heap.size w2 (w2.alloc (.cells #[.int .u8 11, .int .u8 0, .int .u8 0] 5)) := up1 _ _
  have HB3 := Lib.hid (HB2.out.trans (hB3.mono HB2.out.size))
  have HT3 : Hid (KTab (w2.alloc (.cells #[.int .u8 11, .int .u8 0, .int .u8 0] 5))) := Lib.hid (HT.out.below HB3.out HT.out.lt)
  have HP3 := Lib.hid (pg_lit3 w2 11 0 0 (by decide) (by decide) (by decide))
  clear hB3 HB2
  refine (run_exJ _ 3 _ HP3 HT3).mono ?_
  rintro e w4 ⟨x, y, rfl, hB4⟩
  have HB4 := Lib.hid (HB3.out.trans (hB4.mono HB3.out.size))
  clear hB4 HB3 HP3 HT3
  go_wp2_with fail
  go_ret
  exact ⟨rfl, HB4.out⟩
end Go.Proofs.YtkilajobnlagbaaDoor
