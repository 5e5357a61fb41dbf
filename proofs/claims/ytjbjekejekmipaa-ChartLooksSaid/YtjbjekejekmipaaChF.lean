/-
  tollhouselaw06's is and awake.
-/
import Derived.Test.YtjbjekejekmipaaChE
import Derived.Test.YtjbjekejekmipaaSpiA
namespace Go.Proofs.Ytjbjekejekmipaa
open Go.RowKit
set_option linter.unusedVariables false


set_option maxRecDepth 100000 in
set_option maxHeartbeats 2000000 in
theorem is_same (x y e : Int) (w : World) :
    Calls Try.prog 24 #[.agg #[.int .i64 x, .int .i64 y], .int .i64 e, .agg #[.int .i64 x, .int .i64 y], .int .i64 e] w fun r w' => r = .returned (.bool true) ∧ Below w.heap.size w w' := by
  go_enter Try.func24, Try.ntmps24
  go_wp2_with fail
  have Q0 : Hid (Pt ((w.alloc (.cells #[.int .i64 x, .int .i64 y] 24)).alloc (.cells #[.int .i64 x, .int .i64 y] 23)) (w.heap.size) 24 (x) (y)) := Lib.hid ((Pt.mk_ rfl).alloc _)
  have Q1 : Hid (Pt ((w.alloc (.cells #[.int .i64 x, .int .i64 y] 24)).alloc (.cells #[.int .i64 x, .int .i64 y] 23)) (w.heap.size + 1) 23 (x) (y)) := Lib.hid (Pt.mk_ (by simp))
  have HW1 : Hid (Below w.heap.size w ((w.alloc (.cells #[.int .i64 x, .int .i64 y] 24)).alloc (.cells #[.int .i64 x, .int .i64 y] 23))) := Lib.hid (((Below.refl _ _).alloc (Nat.le_refl _) _).alloc (by simp) _)
  generalize ((w.alloc (.cells #[.int .i64 x, .int .i64 y] 24)).alloc (.cells #[.int .i64 x, .int .i64 y] 23)) = W at Q0 Q1 HW1  ⊢
  replace Q0 : Hid (Pt W.drew (w.heap.size) 24 (x) (y)) := Lib.hid Q0.out
  replace Q1 : Hid (Pt W.drew (w.heap.size + 1) 23 (x) (y)) := Lib.hid Q1.out
  replace HW1 : Hid (Below w.heap.size w W.drew) := Lib.hid (below_drewN HW1.out 1)
  have Q0a := Q0.out.c0
  have Q0b := Q0.out.c1
  have Q1a := Q1.out.c0
  have Q1b := Q1.out.c1
  go_region_held3 (fun w' => w'.cell? ⟨w.heap.size, 0, none⟩ = some (.int .i64 x) ∧ w'.cell? ⟨w.heap.size, 1, none⟩ = some (.int .i64 y) ∧ w'.cell? ⟨w.heap.size + 1, 0, none⟩ = some (.int .i64 x) ∧ w'.cell? ⟨w.heap.size + 1, 1, none⟩ = some (.int .i64 y)) (exact ⟨Q0.out.c0, Q0.out.c1, Q1.out.c0, Q1.out.c1⟩)
      (first
        | (go_at_call 14
           refine (to_any _ _ _).mono ?_
           rintro e X ⟨rfl, hB⟩
           replace HW1 := Lib.hid (HW1.out.trans (hB.mono HW1.out.size))
           replace Q0 := Lib.hid (Q0.out.keep hB)
           replace Q1 := Lib.hid (Q1.out.keep hB)
           clear hB Q0a Q0b Q1a Q1b
           have Q0a := Q0.out.c0
           have Q0b := Q0.out.c1
           have Q1a := Q1.out.c0
           have Q1b := Q1.out.c1))
  go_wp2
  go_ret
  exact ⟨rfl, HW1.out⟩

theorem times_ex : timesP 1 2 3 4 = ⟨-5, 10, 0⟩ := by decide
theorem spiral_ex : spiralP 3 = ⟨0, 1, 0⟩ := by decide

set_option maxRecDepth 100000 in
set_option maxHeartbeats 2000000 in
theorem awake_any (w : World) : Calls Try.prog 23 #[] w fun e w' => e = .returned (.bool true) ∧ Below w.heap.size w w' := by
  have h1 : Hid (∀ w, Calls Try.prog 17 #[.agg #[.int .i64 1, .int .i64 2], .agg #[.int .i64 3, .int .i64 4]] w fun e w' => e = .returned (.tuple #[.agg #[.int .i64 (-5), .int .i64 10], .int .i64 0]) ∧ Below w.heap.size w w') := Lib.hid fun w => by
    have h := times_any 1 2 3 4 w
    rw [times_ex] at h
    exact h
  have h2 : Hid (∀ w, Calls Try.prog 31 #[.int .i64 3] w fun e w' => e = .returned (.tuple #[.agg #[.int .i64 0, .int .i64 1], .int .i64 0]) ∧ Below w.heap.size w w') := Lib.hid fun w => by
    have h := spiral_any 3 w
    rw [spiral_ex] at h
    exact h
  go_enter Try.func23, Try.ntmps23
  go_wp2_with fail
  refine (h1.out _).mono ?_
  rintro e W ⟨rfl, hB⟩
  have HW1 := Lib.hid hB
  clear hB
  go_wp2_with fail
  have Q0 : Hid (Pt (W.alloc (.cells #[.int .i64 (-5), .int .i64 10] 24)) W.heap.size 24 (-5) 10) := Lib.hid (Pt.mk_ rfl)
  replace HW1 : Hid (Below w.heap.size w (W.alloc (.cells #[.int .i64 (-5), .int .i64 10] 24))) := Lib.hid (HW1.out.alloc HW1.out.size _)
  generalize W.alloc (.cells #[.int .i64 (-5), .int .i64 10] 24) = V at Q0 HW1 ⊢
  refine (h2.out _).mono ?_
  rintro e X ⟨rfl, hB⟩
  have Q1 := Lib.hid (Q0.out.keep hB)
  have HW2 := Lib.hid (HW1.out.trans (hB.mono HW1.out.size))
  have k1 := Q1.out.c0
  have k2 := Q1.out.c1
  have k3 := Q1.out.lt
  clear hB
  go_wp2
  go_ret
  exact ⟨rfl, HW2.out.alloc HW2.out.size _⟩

end Go.Proofs.Ytjbjekejekmipaa
