/-
  tollhouselaw07's awake.
-/
import Derived.Test.YtnnimjaigciedaaWebSd
namespace Go.Proofs.Ytnnimjaigciedaa
open Go.RowKit
set_option linter.unusedVariables false

def exE : Ed := ⟨0, 1, 5, 3, 0, 0, 0, 0⟩
theorem ex_err : sentErr 2 [exE] 0 0 2 = 0 := by decide
theorem ex_new : sentL [exE] 0 0 2 = [⟨0, 1, 3, 5, 0, 0, 0, 0⟩] := by
  unfold sentL exE
  rfl

set_option maxRecDepth 100000 in
set_option maxHeartbeats 4000000 in
theorem wawake_any (w : World) : Calls Try.prog 14 #[] w fun e w' => e = .returned (.bool true) ∧ Below w.heap.size w w' := by
  have hmk : ∀ w, (Instr.makeSlice 22 (.int .i64 2) (.int .i64 2)).run Try.prog w = .ok (.slice (some ⟨w.heap.size, 0, none⟩) 2 2) (w.alloc (.cells #[.int .i64 0, .int .i64 0, .int .i64 0, .int .i64 0] 56)) := fun _ => by kernel_rfl
  go_enter Try.func14, Try.ntmps14
  go_wp2_with fail
  have HS : Hid (SpotRow (((w.alloc (.cells #[.int .i64 0, .int .i64 0, .int .i64 0, .int .i64 0] 56)).alloc (.cells #[.int .i64 0, .int .i64 1, .int .u64 5, .int .u64 3, .int .u64 0, .int .u64 0, .int .u64 0, .int .u64 0] 102)).alloc (.cells #[.slice (some ⟨w.heap.size, 0, none⟩) 2 2, .slice (some ⟨w.heap.size + 1, 0, none⟩) 1 1] 25)) (some ⟨w.heap.size, 0, none⟩) [(0, 0), (0, 0)]) := Lib.hid (by
    have h : Blk (((w.alloc (.cells #[.int .i64 0, .int .i64 0, .int .i64 0, .int .i64 0] 56)).alloc (.cells #[.int .i64 0, .int .i64 1, .int .u64 5, .int .u64 3, .int .u64 0, .int .u64 0, .int .u64 0, .int .u64 0] 102)).alloc (.cells #[.slice (some ⟨w.heap.size, 0, none⟩) 2 2, .slice (some ⟨w.heap.size + 1, 0, none⟩) 1 1] 25)) w.heap.size 56 [.int .i64 0, .int .i64 0, .int .i64 0, .int .i64 0] := ((Blk.mk_ rfl).alloc _).alloc _
    refine .inr ⟨w.heap.size, 0, rfl, h.lt, fun i hi => ?_⟩
    match i, hi with
    | 0, _ => exact ⟨h.cell 0, h.cell 1⟩
    | 1, _ => exact ⟨h.cell 2, h.cell 3⟩)
  have HE : Hid (EdgeRow (((w.alloc (.cells #[.int .i64 0, .int .i64 0, .int .i64 0, .int .i64 0] 56)).alloc (.cells #[.int .i64 0, .int .i64 1, .int .u64 5, .int .u64 3, .int .u64 0, .int .u64 0, .int .u64 0, .int .u64 0] 102)).alloc (.cells #[.slice (some ⟨w.heap.size, 0, none⟩) 2 2, .slice (some ⟨w.heap.size + 1, 0, none⟩) 1 1] 25)) (some ⟨w.heap.size + 1, 0, none⟩) [exE]) := Lib.hid (by
    have h : Blk (((w.alloc (.cells #[.int .i64 0, .int .i64 0, .int .i64 0, .int .i64 0] 56)).alloc (.cells #[.int .i64 0, .int .i64 1, .int .u64 5, .int .u64 3, .int .u64 0, .int .u64 0, .int .u64 0, .int .u64 0] 102)).alloc (.cells #[.slice (some ⟨w.heap.size, 0, none⟩) 2 2, .slice (some ⟨w.heap.size + 1, 0, none⟩) 1 1] 25)) (w.heap.size + 1) 102 (ecells exE) := (Blk.mk_ (cs := ecells exE) (by simp)).alloc _
    refine .inr ⟨w.heap.size + 1, 0, rfl, h.lt, fun i hi j v hv => ?_⟩
    match i, hi with
    | 0, _ =>
      rw [h.cell, show 0 + 0 * 8 + j = j by omega]
      exact hv)
  have HB : Hid (Below w.heap.size w (((w.alloc (.cells #[.int .i64 0, .int .i64 0, .int .i64 0, .int .i64 0] 56)).alloc (.cells #[.int .i64 0, .int .i64 1, .int .u64 5, .int .u64 3, .int .u64 0, .int .u64 0, .int .u64 0, .int .u64 0] 102)).alloc (.cells #[.slice (some ⟨w.heap.size, 0, none⟩) 2 2, .slice (some ⟨w.heap.size + 1, 0, none⟩) 1 1] 25))) := Lib.hid ((((Below.refl _ _).alloc (Nat.le_refl _) _).alloc (by simp) _).alloc (by simp; omega) _)
  generalize (((w.alloc (.cells #[.int .i64 0, .int .i64 0, .int .i64 0, .int .i64 0] 56)).alloc (.cells #[.int .i64 0, .int .i64 1, .int .u64 5, .int .u64 3, .int .u64 0, .int .u64 0, .int .u64 0, .int .u64 0] 102)).alloc (.cells #[.slice (some ⟨w.heap.size, 0, none⟩) 2 2, .slice (some ⟨w.heap.size + 1, 0, none⟩) 1 1] 25)) = V at HS HE HB ⊢
  refine (wto_any _ 2 2 _ 1 1 [(0, 0), (0, 0)] [exE] V HS.out HE.out rfl rfl (by omega) (by omega)).mono ?_
  rintro e Y ⟨sa, sc, ea, ec, rfl, h1, h2, h3, h4, hB⟩
  have HWA : Hid (WebAt Y (.agg #[.slice sa 2 sc, .slice ea 1 ec]) [(0, 0), (0, 0)] [exE]) := Lib.hid ⟨sa, sc, ea, ec, rfl, h1, h2, h3, h4⟩
  replace HB := Lib.hid (HB.out.trans (hB.mono HB.out.size))
  clear hB h1 h2 h3 h4 HS HE
  have HSE : Hid (Calls Try.prog 27 #[.agg #[.slice sa 2 sc, .slice ea 1 ec], .int .i64 0, .int .i64 0, .int .u64 2] Y (SentPost Y [(0, 0), (0, 0)] [exE] 0 0 2)) := Lib.hid (sent_any _ _ _ 0 0 2 Y HWA.out (by simp) (by simp) (by
    intro e he
    have : e = exE := by simpa using he
    subst this
    unfold EdOk Word exE
    simp) ⟨by omega, by omega⟩)
  go_wp2_with fail
  refine HSE.out.mono ?_
  rintro e Z ⟨v, rfl, hB, hgood, _⟩
  replace HB := Lib.hid (HB.out.trans (hB.mono HB.out.size))
  obtain ⟨a1, c1, a2, c2, rfl, h1, h2, h3, h4⟩ := hgood ex_err
  rw [ex_new] at h2 ⊢
  have HEr : Hid (sentErr 2 [exE] 0 0 2 = 0) := Lib.hid ex_err
  rcases h2 with h0 | ⟨b, off, rfl, hb, hc⟩
  · cases h0
  · have e0 := hc 0 (by simp) 2 _ rfl
    have e1 := hc 0 (by simp) 3 _ rfl
    simp only [Nat.zero_mul, Nat.add_zero] at e0 e1
    have HC0 := Lib.hid e0
    have HC1 := Lib.hid e1
    clear hc h1 h3 h4 hgood hB e0 e1
    rw [show sentErr ([((0 : Int), (0 : Int)), (0, 0)] : List (Int × Int)).length [exE] 0 0 2 = 0 from ex_err]
    have e0 := HC0.out
    have e1 := HC1.out
    have heq : ∀ w, (binOp .eql 49 (.agg #[.int .u64 3, .int .u64 5]) (.agg #[.int .u64 3, .int .u64 5])).run Try.prog w = .ok (.bool true) w := fun _ => by kernel_rfl
    go_wp2
    go_ret
    exact ⟨rfl, HB.out.alloc HB.out.size _⟩
end Go.Proofs.Ytnnimjaigciedaa
