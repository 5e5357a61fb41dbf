/-
  What a nil In answers (octet): zeros and empty lists, and ErrNil where it answers an error; memory that was there stays as it was.
-/
import Derived.Test.YtneacogenjlhgaaAwake
import Derived.Deep.RegionHeld3
import Derived.Deep.WholeRow
namespace Go.Proofs.Ytneacogenjlhgaa
open Go.RowKit
set_option linter.unusedVariables false

theorem fail_nil (e : Int) (w : World) : Calls Try.prog 27 #[.pointer none, .int .i64 e] w fun r w' => r = .returned (.tuple #[]) ∧ w = w' := by
  go_enter Try.func27, Try.ntmps27
  go_wp2
  exact bodyPost_ret (v := .tuple #[]) (by simp [results, Try.results27, go_sem]) rfl ⟨rfl, rfl⟩

theorem next_nil (n : Int) (w : World) : Calls Try.prog 61 #[.pointer none, .int .i64 n] w fun r w' => r = .returned (.slice none 0 0) ∧ w = w' := by
  go_enter Try.func61, Try.ntmps61
  go_wp2
  go_ret
  exact ⟨rfl, rfl⟩

theorem number_nil (w : World) : Calls Try.prog 60 #[.slice none 0 0] w fun r w' => r = .returned (.int .u64 0) ∧ w = w' := by
  go_enter Try.func60, Try.ntmps60
  go_wp2
  refine wp_loop_rounds 1 ?_
  rw [rounds_succ]
  go_wp2
  go_ret
  exact ⟨rfl, rfl⟩

theorem one_nil (w : World) : Calls Try.prog 20 #[.pointer none] w fun r w' => r = .returned (.int .u8 0) ∧ w = w' := by
  go_enter Try.func20, Try.ntmps20
  go_wp2_with (first | (go_at_call 61; refine (next_nil _ _).mono ?_; rintro e w' ⟨rfl, rfl⟩) | (go_at_call 60; refine (number_nil _).mono ?_; rintro e w' ⟨rfl, rfl⟩))
  go_ret
  exact ⟨rfl, rfl⟩

theorem four_nil (w : World) : Calls Try.prog 21 #[.pointer none] w fun r w' => r = .returned (.int .u32 0) ∧ w = w' := by
  go_enter Try.func21, Try.ntmps21
  go_wp2_with (first | (go_at_call 61; refine (next_nil _ _).mono ?_; rintro e w' ⟨rfl, rfl⟩) | (go_at_call 60; refine (number_nil _).mono ?_; rintro e w' ⟨rfl, rfl⟩))
  go_ret
  exact ⟨rfl, rfl⟩

theorem eight_nil (w : World) : Calls Try.prog 22 #[.pointer none] w fun r w' => r = .returned (.int .u64 0) ∧ w = w' := by
  go_enter Try.func22, Try.ntmps22
  go_wp2_with (first | (go_at_call 61; refine (next_nil _ _).mono ?_; rintro e w' ⟨rfl, rfl⟩) | (go_at_call 60; refine (number_nil _).mono ?_; rintro e w' ⟨rfl, rfl⟩))
  go_ret
  exact ⟨rfl, rfl⟩

theorem bad_nil (w : World) : Calls Try.prog 25 #[.pointer none] w fun r w' => r = .returned (.int .i64 2) ∧ w = w' := by
  go_enter Try.func25, Try.ntmps25
  go_wp2
  go_ret
  exact ⟨rfl, rfl⟩

theorem left_nil (w : World) : Calls Try.prog 29 #[.pointer none] w fun r w' => r = .returned (.int .i64 0) ∧ w = w' := by
  go_enter Try.func29, Try.ntmps29
  go_wp2
  go_ret
  exact ⟨rfl, rfl⟩

theorem end_nil (w : World) : Calls Try.prog 26 #[.pointer none] w fun r w' => r = .returned (.int .i64 2) ∧ w = w' := by
  go_enter Try.func26, Try.ntmps26
  go_wp2_with (go_at_call 25; refine (bad_nil _).mono ?_; rintro e w' ⟨rfl, rfl⟩)
  go_ret
  exact ⟨rfl, rfl⟩

theorem many_nil (m : Int) (w : World) (hm : 0 ≤ m) : Calls Try.prog 28 #[.pointer none, .int .i64 m] w fun r w' => r = .returned (.int .i64 0) ∧ w = w' := by
  go_enter Try.func28, Try.ntmps28
  go_wp2_with (go_at_call 20; refine (one_nil _).mono ?_; rintro e w' ⟨rfl, rfl⟩)
  go_ret
  exact ⟨rfl, rfl⟩

theorem copy_none (a : Option Addr) (n c : Nat) (w : World) : (Builtin.copy_ #[26, 26] 3 #[.slice a n c, .slice none 0 0]).run Try.prog w = .ok (.int .i64 0) w := by
  obtain ⟨i0, hi, hz0, hz1, hz2⟩ := info_parts byte_info
  cases a <;> simp [Builtin.copy_, run_underlying Try.underlying26, sizeOf, typeInfo, hi, Builtin.lenOf, Builtin.firstCells, storeCells] <;> rfl

theorem make_none (w : World) : (Instr.makeSlice 26 (.int .i64 0) (.int .i64 0)).run Try.prog w = .ok (.slice (some ⟨w.heap.size, 0, none⟩) 0 0) (w.alloc (.cells #[] 5)) := by kernel_rfl

/-- A sum that is zero. -/
def zeros : Array Value := Array.replicate 32 (.int .u8 0)
theorem zeros_lit : (#[.int .u8 0, .int .u8 0, .int .u8 0, .int .u8 0, .int .u8 0, .int .u8 0, .int .u8 0, .int .u8 0, .int .u8 0, .int .u8 0, .int .u8 0, .int .u8 0, .int .u8 0, .int .u8 0, .int .u8 0, .int .u8 0, .int .u8 0, .int .u8 0, .int .u8 0, .int .u8 0, .int .u8 0, .int .u8 0, .int .u8 0, .int .u8 0, .int .u8 0, .int .u8 0, .int .u8 0, .int .u8 0, .int .u8 0, .int .u8 0, .int .u8 0, .int .u8 0] : Array Value) = zeros := rfl

set_option maxRecDepth 100000 in
set_option maxHeartbeats 1000000 in
theorem sum_nil (w : World) : Calls Try.prog 23 #[.pointer none] w fun r w' => r = .returned (.agg zeros) ∧ Below w.heap.size w w' := by
  have hcp := copy_none
  go_enter Try.func23, Try.ntmps23
  go_wp2_with fail
  rw [zeros_lit]
  have h0 : ((w.alloc (.cells zeros 42)).alloc (.cells zeros 42)).heap[w.heap.size]? = some (.cells zeros 42 (0, 0)) := by
    rw [Below.heap_alloc _ _ _ (by simp)]
    exact heap_alloc_last w _
  have h1 : ((w.alloc (.cells zeros 42)).alloc (.cells zeros 42)).heap[w.heap.size + 1]? = some (.cells zeros 42 (0, 0)) := by
    have := heap_alloc_last (w.alloc (.cells zeros 42)) (.cells zeros 42)
    simpa using this
  have HB := Lib.hid (((Below.refl _ w).alloc (Nat.le_refl _) (.cells zeros 42)).alloc (by simp) (.cells zeros 42))
  generalize (w.alloc (.cells zeros 42)).alloc (.cells zeros 42) = W at *
  have H0 := Lib.hid h0
  have H1 := Lib.hid h1
  clear h0 h1
  go_region_held3 (fun w' => True) (trivial) (first | (go_at_call 61; refine (next_nil _ _).mono ?_; rintro e w' ⟨rfl, rfl⟩))
  have HD : Hid (zeros.size = 32) := Lib.hid (by simp [zeros])
  go_wp2_with (first | (refine wpList_load_row rfl 42 (.tmp 3) rfl (w.heap.size + 1) rfl 42 zeros (0, 0) _ H1.out Try.underlying42 rfl (by kernel_rfl) ?_) | (refine wpList_store_row rfl 42 (.tmp 2) (.tmp 8) rfl w.heap.size zeros rfl rfl 42 zeros H0.out (by kernel_rfl) rfl (by kernel_rfl) ?_))
  have hb : Below w.heap.size w (W.drew.setRow w.heap.size zeros) := HB.out.drew.trans ⟨rfl, rfl, rfl, by simp, fun k hk => setRow_other _ _ k _ (by omega)⟩
  exact bodyPost_ret (v := .agg zeros) (results_cell_row Try.results23 _ _ w.heap.size 42 zeros (0, 0) _ rfl (setRow_heap W.drew w.heap.size zeros zeros 42 _ H0.out) Try.underlying42 rfl (by kernel_rfl)) rfl ⟨rfl, hb⟩

set_option maxRecDepth 100000 in
set_option maxHeartbeats 1000000 in
theorem blob_nil (m : Int) (w : World) : Calls Try.prog 24 #[.pointer none, .int .i64 m] w fun r w' => ∃ A c, r = .returned (.slice A 0 c) ∧ Below w.heap.size w w' := by
  by_cases hm : m < 0
  · go_enter Try.func24, Try.ntmps24
    go_wp2_with (first | (go_at_call 21; refine (four_nil _).mono ?_; rintro e w' ⟨rfl, rfl⟩) | (go_at_call 27; refine (fail_nil _ _).mono ?_; rintro e w' ⟨rfl, rfl⟩))
    go_ret
    exact ⟨none, 0, rfl, Below.refl _ _⟩
  · have hcp := copy_none
    have hmk := make_none
    go_enter Try.func24, Try.ntmps24
    go_wp2_with (first | (go_at_call 21; refine (four_nil _).mono ?_; rintro e w' ⟨rfl, rfl⟩) | (go_at_call 61; refine (next_nil _ _).mono ?_; rintro e w' ⟨rfl, rfl⟩))
    go_ret
    exact ⟨_, _, rfl, (Below.refl _ _).alloc (Nat.le_refl _) _⟩
end Go.Proofs.Ytneacogenjlhgaa
