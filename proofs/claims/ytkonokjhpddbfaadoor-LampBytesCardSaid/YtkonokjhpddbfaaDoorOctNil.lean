/-
  What a nil In answers (octet): zeros and empty lists, and ErrNil where it answers an error; memory that was there stays as it was.
-/
import Derived.Test.YtkonokjhpddbfaaDoorOctAwake
import Derived.Deep.RegionHeld3
import Derived.Deep.WholeRow
namespace Go.Proofs.YtkonokjhpddbfaaDoor.Oct
open Go.RowKit
set_option linter.unusedVariables false

theorem fail_nil (e : Int) (w : World) : Calls Tryd.prog 103 #[.pointer none, .int .i64 e] w fun r w' => r = .returned (.tuple #[]) ∧ w = w' := by
  go_enter Tryd.func103, Tryd.ntmps103
  go_wp2
  exact bodyPost_ret (v := .tuple #[]) (by simp [results, Tryd.results103, go_sem]) rfl ⟨rfl, rfl⟩

theorem next_nil (n : Int) (w : World) : Calls Tryd.prog 97 #[.pointer none, .int .i64 n] w fun r w' => r = .returned (.slice none 0 0) ∧ w = w' := by
  go_enter Tryd.func97, Tryd.ntmps97
  go_wp2
  go_ret
  exact ⟨rfl, rfl⟩

theorem number_nil (w : World) : Calls Tryd.prog 101 #[.slice none 0 0] w fun r w' => r = .returned (.int .u64 0) ∧ w = w' := by
  go_enter Tryd.func101, Tryd.ntmps101
  go_wp2
  refine wp_loop_rounds 1 ?_
  rw [rounds_succ]
  go_wp2
  go_ret
  exact ⟨rfl, rfl⟩

theorem one_nil (w : World) : Calls Tryd.prog 102 #[.pointer none] w fun r w' => r = .returned (.int .u8 0) ∧ w = w' := by
  go_enter Tryd.func102, Tryd.ntmps102
  go_wp2_with (first | (go_at_call 97; refine (next_nil _ _).mono ?_; rintro e w' ⟨rfl, rfl⟩) | (go_at_call 101; refine (number_nil _).mono ?_; rintro e w' ⟨rfl, rfl⟩))
  go_ret
  exact ⟨rfl, rfl⟩

theorem four_nil (w : World) : Calls Tryd.prog 83 #[.pointer none] w fun r w' => r = .returned (.int .u32 0) ∧ w = w' := by
  go_enter Tryd.func83, Tryd.ntmps83
  go_wp2_with (first | (go_at_call 97; refine (next_nil _ _).mono ?_; rintro e w' ⟨rfl, rfl⟩) | (go_at_call 101; refine (number_nil _).mono ?_; rintro e w' ⟨rfl, rfl⟩))
  go_ret
  exact ⟨rfl, rfl⟩

theorem bad_nil (w : World) : Calls Tryd.prog 34 #[.pointer none] w fun r w' => r = .returned (.int .i64 2) ∧ w = w' := by
  go_enter Tryd.func34, Tryd.ntmps34
  go_wp2
  go_ret
  exact ⟨rfl, rfl⟩

theorem left_nil (w : World) : Calls Tryd.prog 35 #[.pointer none] w fun r w' => r = .returned (.int .i64 0) ∧ w = w' := by
  go_enter Tryd.func35, Tryd.ntmps35
  go_wp2
  go_ret
  exact ⟨rfl, rfl⟩

theorem end_nil (w : World) : Calls Tryd.prog 38 #[.pointer none] w fun r w' => r = .returned (.int .i64 2) ∧ w = w' := by
  go_enter Tryd.func38, Tryd.ntmps38
  go_wp2_with (go_at_call 34; refine (bad_nil _).mono ?_; rintro e w' ⟨rfl, rfl⟩)
  go_ret
  exact ⟨rfl, rfl⟩

theorem many_nil (m : Int) (w : World) (hm : 0 ≤ m) : Calls Tryd.prog 84 #[.pointer none, .int .i64 m] w fun r w' => r = .returned (.int .i64 0) ∧ w = w' := by
  go_enter Tryd.func84, Tryd.ntmps84
  go_wp2_with (go_at_call 102; refine (one_nil _).mono ?_; rintro e w' ⟨rfl, rfl⟩)
  go_ret
  exact ⟨rfl, rfl⟩

theorem copy_none (a : Option Addr) (n c : Nat) (w : World) : (Builtin.copy_ #[30, 30] 3 #[.slice a n c, .slice none 0 0]).run Tryd.prog w = .ok (.int .i64 0) w := by
  obtain ⟨i0, hi, hz0, hz1, hz2⟩ := info_parts byte_info
  cases a <;> simp [Builtin.copy_, run_underlying Tryd.underlying30, sizeOf, typeInfo, hi, Builtin.lenOf, Builtin.firstCells, storeCells] <;> rfl

theorem make_none (w : World) : (Instr.makeSlice 30 (.int .i64 0) (.int .i64 0)).run Tryd.prog w = .ok (.slice (some ⟨w.heap.size, 0, none⟩) 0 0) (w.alloc (.cells #[] 5)) := by kernel_rfl

/-- A sum that is zero. -/
def zeros : Array Value := Array.replicate 32 (.int .u8 0)
theorem zeros_lit : (#[.int .u8 0, .int .u8 0, .int .u8 0, .int .u8 0, .int .u8 0, .int .u8 0, .int .u8 0, .int .u8 0, .int .u8 0, .int .u8 0, .int .u8 0, .int .u8 0, .int .u8 0, .int .u8 0, .int .u8 0, .int .u8 0, .int .u8 0, .int .u8 0, .int .u8 0, .int .u8 0, .int .u8 0, .int .u8 0, .int .u8 0, .int .u8 0, .int .u8 0, .int .u8 0, .int .u8 0, .int .u8 0, .int .u8 0, .int .u8 0, .int .u8 0, .int .u8 0] : Array Value) = zeros := rfl

set_option maxRecDepth 100000 in
set_option maxHeartbeats 1000000 in
theorem sum_nil (w : World) : Calls Tryd.prog 72 #[.pointer none] w fun r w' => r = .returned (.agg zeros) ∧ Below w.heap.size w w' := by
  have hcp := copy_none
  go_enter Tryd.func72, Tryd.ntmps72
  go_wp2_with fail
  rw [zeros_lit]
  have h0 : ((w.alloc (.cells zeros 36)).alloc (.cells zeros 36)).heap[w.heap.size]? = some (.cells zeros 36 (0, 0)) := by
    rw [Below.heap_alloc _ _ _ (by simp)]
    exact heap_alloc_last w _
  have h1 : ((w.alloc (.cells zeros 36)).alloc (.cells zeros 36)).heap[w.heap.size + 1]? = some (.cells zeros 36 (0, 0)) := by
    have := heap_alloc_last (w.alloc (.cells zeros 36)) (.cells zeros 36)
    simpa using this
  have HB := Lib.hid (((Below.refl _ w).alloc (Nat.le_refl _) (.cells zeros 36)).alloc (by simp) (.cells zeros 36))
  generalize (w.alloc (.cells zeros 36)).alloc (.cells zeros 36) = W at *
  have H0 := Lib.hid h0
  have H1 := Lib.hid h1
  clear h0 h1
  go_region_held3 (fun w' => True) (trivial) (first | (go_at_call 97; refine (next_nil _ _).mono ?_; rintro e w' ⟨rfl, rfl⟩))
  have HD : Hid (zeros.size = 32) := Lib.hid (by simp [zeros])
  go_wp2_with (first | (refine wpList_load_row rfl 36 (.tmp 3) rfl (w.heap.size + 1) rfl 36 zeros (0, 0) _ H1.out Tryd.underlying36 rfl (by kernel_rfl) ?_) | (refine wpList_store_row rfl 36 (.tmp 2) (.tmp 8) rfl w.heap.size zeros rfl rfl 36 zeros H0.out (by kernel_rfl) rfl (by kernel_rfl) ?_))
  have hb : Below w.heap.size w (W.drew.setRow w.heap.size zeros) := HB.out.drew.trans ⟨rfl, rfl, rfl, by simp, fun k hk => setRow_other _ _ k _ (by omega)⟩
  exact bodyPost_ret (v := .agg zeros) (results_cell_row Tryd.results72 _ _ w.heap.size 36 zeros (0, 0) _ rfl (setRow_heap W.drew w.heap.size zeros zeros 36 _ H0.out) Tryd.underlying36 rfl (by kernel_rfl)) rfl ⟨rfl, hb⟩

end Go.Proofs.YtkonokjhpddbfaaDoor.Oct
