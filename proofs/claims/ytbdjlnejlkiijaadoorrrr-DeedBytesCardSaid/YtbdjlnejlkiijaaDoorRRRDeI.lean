/-
  A state alike; the first one; a wish as the program's.
-/
import Derived.Test.YtbdjlnejlkiijaaDoorRRRDeH
namespace Go.Proofs.YtbdjlnejlkiijaaDoorRRR
open Go.RowKit
set_option linter.unusedVariables false

set_option maxRecDepth 100000 in
set_option maxHeartbeats 4000000 in
theorem pnew_any (ch : Int) (w : World) : Calls Tryd.prog 43 #[.int .u32 ch] w fun e w' => e = .returned (.agg #[.int .u32 ch, .int .u64 0, .int .u64 0, .int .u64 0, .int .u64 0, .int .u64 0, .slice none 0 0]) ∧ Below w.heap.size w w' := by
  go_enter Tryd.func43, Tryd.ntmps43
  go_upto_region 1 with fail
  have B0 : Hid (Below w.heap.size w (w.alloc (.cells #[.int .u32 0, .int .u64 0, .int .u64 0, .int .u64 0, .int .u64 0, .int .u64 0, .slice none 0 0] 40))) := Lib.hid ((Below.refl _ _).alloc (Nat.le_refl _) _)
  have R0 : Hid (Blk (w.alloc (.cells #[.int .u32 0, .int .u64 0, .int .u64 0, .int .u64 0, .int .u64 0, .int .u64 0, .slice none 0 0] 40)) w.heap.size 40 [.int .u32 0, .int .u64 0, .int .u64 0, .int .u64 0, .int .u64 0, .int .u64 0, .slice none 0 0]) := Lib.hid (Blk.mk_ rfl)
  generalize w.alloc (.cells #[.int .u32 0, .int .u64 0, .int .u64 0, .int .u64 0, .int .u64 0, .int .u64 0, .slice none 0 0] 40) = Y at B0 R0 ⊢
  have HG : Hid (w.heap.size ≤ w.heap.size) := Lib.hid (Nat.le_refl _)
  obtain ⟨gR, hgR⟩ : ∃ g, w.heap.size = g := ⟨_, rfl⟩
  have HGR : Hid (w.heap.size ≤ gR) := Lib.hid (by omega)
  rw [hgR] at R0 ⊢
  clear hgR HG
  have r0 := R0.out.cell 0
  have r1 := R0.out.cell 1
  have r2 := R0.out.cell 2
  have r3 := R0.out.cell 3
  have r4 := R0.out.cell 4
  have r5 := R0.out.cell 5
  have r6 := R0.out.cell 6
  simp only [List.getElem?_cons_zero, List.getElem?_cons_succ] at r0 r1 r2 r3 r4 r5 r6
  have f0 := R0.out.frozen 0
  have f1 := R0.out.frozen 1
  have f2 := R0.out.frozen 2
  have f3 := R0.out.frozen 3
  have f4 := R0.out.frozen 4
  have f5 := R0.out.frozen 5
  have f6 := R0.out.frozen 6
  go_wp2
  have hRR : Blk ((((((((Y.setCell ⟨gR, 0, none⟩ (.int .u32 ch)).setCell ⟨gR, 1, none⟩ (.int .u64 0)).setCell ⟨gR, 2, none⟩ (.int .u64 0)).setCell ⟨gR, 3, none⟩ (.int .u64 0)).setCell ⟨gR, 4, none⟩ (.int .u64 0)).setCell ⟨gR, 5, none⟩ (.int .u64 0)).setCell ⟨gR, 6, none⟩ (.slice none 0 0))) gR 40 [.int .u32 ch, .int .u64 0, .int .u64 0, .int .u64 0, .int .u64 0, .int .u64 0, .slice none 0 0] := (((((((R0.out.set_ 0 _).set_ 1 _).set_ 2 _).set_ 3 _).set_ 4 _).set_ 5 _).set_ 6 _)
  have hz1 : (Tryd.prog.info? 40).map (·.size) = some (#[.int .u32 ch, .int .u64 0, .int .u64 0, .int .u64 0, .int .u64 0, .int .u64 0, .slice none 0 0] : Array Value).size := info31
  exact bodyPost_ret (results_cell_row Tryd.results43 _ _ gR 40 #[.int .u32 ch, .int .u64 0, .int .u64 0, .int .u64 0, .int .u64 0, .int .u64 0, .slice none 0 0] (0, 0) _ rfl hRR Tryd.underlying40 rfl hz1) rfl ⟨rfl, (((((((B0.out.setCell (p := ⟨gR, 0, none⟩) HGR.out _).setCell (p := ⟨gR, 1, none⟩) HGR.out _).setCell (p := ⟨gR, 2, none⟩) HGR.out _).setCell (p := ⟨gR, 3, none⟩) HGR.out _).setCell (p := ⟨gR, 4, none⟩) HGR.out _).setCell (p := ⟨gR, 5, none⟩) HGR.out _).setCell (p := ⟨gR, 6, none⟩) HGR.out _)⟩

end Go.Proofs.YtbdjlnejlkiijaaDoorRRR
