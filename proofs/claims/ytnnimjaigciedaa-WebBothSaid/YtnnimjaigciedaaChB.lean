/-
  chart's spotAt, Move, Times, Turn, Mirror, Far, Side: what they answer; memory that was there stays as it was.
-/
import Derived.Test.YtnnimjaigciedaaChA
import Derived.Laws.ResultCell
namespace Go.Proofs.Ytnnimjaigciedaa
open Go.RowKit
set_option linter.unusedVariables false

theorem load24 (w : World) (g t : Nat) (x y : Int) (h : Pt w g t x y) : (loadVar 62 ⟨g, 0, none⟩).run Try.prog w = .ok (.agg #[.int .i64 x, .int .i64 y]) w := by
  have k1 := h.c0
  have k2 := h.c1
  go_simp
theorem load23 (w : World) (g t : Nat) (x y : Int) (h : Pt w g t x y) : (loadVar 56 ⟨g, 0, none⟩).run Try.prog w = .ok (.agg #[.int .i64 x, .int .i64 y]) w := by
  have k1 := h.c0
  have k2 := h.c1
  go_simp

theorem results24 {fn : Func} {p u : Tmp} (h : fn.results = #[.cell p 62, .tmp u]) (tmps : Array Value) (w : World) (g t : Nat) (x y : Int) (v : Value) (hp : tmps.getD p undef = .pointer (some ⟨g, 0, none⟩)) (hu : tmps.getD u undef = v) (hP : Pt w g t x y) :
    (results fn tmps).run Try.prog w = .ok (.tuple #[.agg #[.int .i64 x, .int .i64 y], v]) w := by
  rw [results_cell_tmp h, hp, hu]
  simp [asAddr, Result.andThen, load24 w g t x y hP]
theorem results23 {fn : Func} {p u : Tmp} (h : fn.results = #[.cell p 56, .tmp u]) (tmps : Array Value) (w : World) (g t : Nat) (x y : Int) (v : Value) (hp : tmps.getD p undef = .pointer (some ⟨g, 0, none⟩)) (hu : tmps.getD u undef = v) (hP : Pt w g t x y) :
    (results fn tmps).run Try.prog w = .ok (.tuple #[.agg #[.int .i64 x, .int .i64 y], v]) w := by
  rw [results_cell_tmp h, hp, hu]
  simp [asAddr, Result.andThen, load23 w g t x y hP]



end Go.Proofs.Ytnnimjaigciedaa
