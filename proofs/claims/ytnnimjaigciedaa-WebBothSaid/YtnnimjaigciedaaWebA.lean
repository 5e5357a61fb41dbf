/-
  Channels as numbers, rows of them; web's Side and has, the law's Light.
-/
import Derived.Test.YtnnimjaigciedaaNearLib
import Derived.Test.YtnnimjaigciedaaStep
namespace Go.Proofs.Ytnnimjaigciedaa
open Go.RowKit
set_option linter.unusedVariables false

/-- A channel: its ends, what they can send, their fees. -/
structure Ed where
  p : Int
  q : Int
  c : Int
  d : Int
  f : Int
  g : Int
  h : Int
  i : Int
def ed0 : Ed := ⟨0, 0, 0, 0, 0, 0, 0, 0⟩
def ecells (e : Ed) : List Value := [.int .i64 e.p, .int .i64 e.q, .int .u64 e.c, .int .u64 e.d, .int .u64 e.f, .int .u64 e.g, .int .u64 e.h, .int .u64 e.i]
/-- A number of 64 bits. -/
def Word (x : Int) : Prop := 0 ≤ x ∧ x ≤ 18446744073709551615
def EdOk (e : Ed) : Prop := (-9223372036854775808 ≤ e.p ∧ e.p ≤ 9223372036854775807) ∧ (-9223372036854775808 ≤ e.q ∧ e.q ≤ 9223372036854775807) ∧ Word e.c ∧ Word e.d ∧ Word e.f ∧ Word e.g ∧ Word e.h ∧ Word e.i

/-- A slice of channels, read as a list. -/
def EdgeRow (w : World) (a : Option Addr) (l : List Ed) : Prop :=
  l = [] ∨ ∃ b off, a = some ⟨b, off, none⟩ ∧ b < w.heap.size ∧ ∀ i, i < l.length → ∀ j v, (ecells (l.getD i ed0))[j]? = some v → w.cell? ⟨b, off + i * 8 + j, none⟩ = some v

theorem EdgeRow.below {w w' : World} {a : Option Addr} {l : List Ed} (h : EdgeRow w a l) (hB : Below w.heap.size w w') : EdgeRow w' a l := by
  rcases h with h1 | ⟨b, off, h4, h5, h6⟩
  · exact .inl h1
  · exact .inr ⟨b, off, h4, Nat.lt_of_lt_of_le h5 hB.size, fun i hi j v hv => by
      rw [hB.cell (p := ⟨b, off + i * 8 + j, none⟩) h5]
      exact h6 i hi j v hv⟩

/-- Which side a node is at. -/
def sideE (e : Ed) (n : Int) : Int := if e.p = n then 0 else if e.q = n then 1 else -1

set_option maxRecDepth 100000 in
set_option maxHeartbeats 1000000 in
theorem eside_any (e : Ed) (n : Int) (w : World) :
    Calls Try.prog 20 #[.agg (ecells e).toArray, .int .i64 n] w fun r w' => r = .returned (.int .i64 (sideE e n)) ∧ Below w.heap.size w w' := by
  obtain ⟨p, q, c, d, f, g, h, i⟩ := e
  show Calls Try.prog 20 #[.agg #[.int .i64 p, .int .i64 q, .int .u64 c, .int .u64 d, .int .u64 f, .int .u64 g, .int .u64 h, .int .u64 i], .int .i64 n] w _
  have i0 : ∀ w, (Instr.index 48 (.agg #[.int .i64 p, .int .i64 q]) (.int .i64 0)).run Try.prog w = .ok (.int .i64 p) w := fun _ => by kernel_rfl
  have i1 : ∀ w, (Instr.index 48 (.agg #[.int .i64 p, .int .i64 q]) (.int .i64 1)).run Try.prog w = .ok (.int .i64 q) w := fun _ => by kernel_rfl
  by_cases h1 : p = n
  · have HE : Hid (sideE ⟨p, q, c, d, f, g, h, i⟩ n = 0) := Lib.hid (by unfold sideE; rw [if_pos h1])
    have b1 : (p == n) = true := by simpa using h1
    clear h1
    go_enter Try.func20, Try.ntmps20
    go_wp2
    refine wp_loop_rounds 1 ?_
    rw [rounds_succ]
    go_wp2
    go_ret
    exact ⟨by rw [HE.out]; rfl, (Below.refl _ _).alloc (Nat.le_refl _) _⟩
  · have b1 : (p == n) = false := by simpa using h1
    by_cases h2 : q = n
    · have HE : Hid (sideE ⟨p, q, c, d, f, g, h, i⟩ n = 1) := Lib.hid (by unfold sideE; rw [if_neg h1, if_pos h2])
      have b2 : (q == n) = true := by simpa using h2
      clear h1 h2
      go_enter Try.func20, Try.ntmps20
      go_wp2
      refine wp_loop_rounds 2 ?_
      rw [rounds_succ]
      go_wp2
      rw [rounds_succ]
      go_wp2
      go_ret
      exact ⟨by rw [HE.out]; rfl, (Below.refl _ _).alloc (Nat.le_refl _) _⟩
    · have HE : Hid (sideE ⟨p, q, c, d, f, g, h, i⟩ n = -1) := Lib.hid (by unfold sideE; rw [if_neg h1, if_neg h2])
      have b2 : (q == n) = false := by simpa using h2
      clear h1 h2
      go_enter Try.func20, Try.ntmps20
      go_wp2
      refine wp_loop_rounds 3 ?_
      rw [rounds_succ]
      go_wp2
      rw [rounds_succ]
      go_wp2
      rw [rounds_succ]
      go_wp2
      go_ret
      exact ⟨by rw [HE.out]; rfl, (Below.refl _ _).alloc (Nat.le_refl _) _⟩

def hasB (n : Int) (sl : Nat) : Bool := decide (0 ≤ n ∧ n < (sl : Int))
def lightB (sl el : Nat) : Bool := decide (sl ≤ 20 ∧ el ≤ 30)

/-- A web's two slices. -/
def webV (sa : Option Addr) (sl sc : Nat) (ea : Option Addr) (el ec : Nat) : Value := .agg #[.slice sa sl sc, .slice ea el ec]

set_option maxRecDepth 100000 in
set_option maxHeartbeats 1000000 in
theorem has_any (sa : Option Addr) (sl sc : Nat) (ea : Option Addr) (el ec : Nat) (n : Int) (w : World) :
    Calls Try.prog 47 #[.agg #[.slice sa sl sc, .slice ea el ec], .int .i64 n] w fun r w' => r = .returned (.bool (hasB n sl)) ∧ Below w.heap.size w w' := by
  by_cases h1 : 0 ≤ n
  · by_cases h2 : n < (sl : Int)
    · have HE : Hid (hasB n sl = true) := Lib.hid (decide_eq_true (show 0 ≤ n ∧ n < (sl : Int) from ⟨h1, h2⟩))
      have b2 : decide (n < (sl : Int)) = true := decide_eq_true h2
      go_enter Try.func47, Try.ntmps47
      go_wp2
      go_ret
      exact ⟨by rw [HE.out]; rfl, (Below.refl _ _).alloc (Nat.le_refl _) _⟩
    · have HE : Hid (hasB n sl = false) := Lib.hid (decide_eq_false (show ¬ (0 ≤ n ∧ n < (sl : Int)) from fun h => h2 h.2))
      have b2 : decide (n < (sl : Int)) = false := decide_eq_false h2
      go_enter Try.func47, Try.ntmps47
      go_wp2
      go_ret
      exact ⟨by rw [HE.out]; rfl, (Below.refl _ _).alloc (Nat.le_refl _) _⟩
  · have HE : Hid (hasB n sl = false) := Lib.hid (decide_eq_false (show ¬ (0 ≤ n ∧ n < (sl : Int)) from fun h => h1 h.1))
    have b1 : decide (0 ≤ n) = false := decide_eq_false h1
    go_enter Try.func47, Try.ntmps47
    go_wp2
    go_ret
    exact ⟨by rw [HE.out]; rfl, (Below.refl _ _).alloc (Nat.le_refl _) _⟩

set_option maxRecDepth 100000 in
set_option maxHeartbeats 1000000 in
theorem light_any (sa : Option Addr) (sl sc : Nat) (ea : Option Addr) (el ec : Nat) (w : World) :
    Calls Try.prog 13 #[.agg #[.slice sa sl sc, .slice ea el ec]] w fun r w' => r = .returned (.bool (lightB sl el)) ∧ Below w.heap.size w w' := by
  by_cases h1 : sl ≤ 20
  · have b1 : decide ((sl : Int) ≤ 20) = true := decide_eq_true (by omega)
    by_cases h2 : el ≤ 30
    · have HE : Hid (lightB sl el = true) := Lib.hid (decide_eq_true (show sl ≤ 20 ∧ el ≤ 30 from ⟨h1, h2⟩))
      have b2 : decide ((el : Int) ≤ 30) = true := decide_eq_true (by omega)
      clear h1 h2
      go_enter Try.func13, Try.ntmps13
      go_wp2
      go_ret
      exact ⟨by rw [HE.out]; rfl, (Below.refl _ _).alloc (Nat.le_refl _) _⟩
    · have HE : Hid (lightB sl el = false) := Lib.hid (decide_eq_false (show ¬ (sl ≤ 20 ∧ el ≤ 30) from fun h => h2 h.2))
      have b2 : decide ((el : Int) ≤ 30) = false := decide_eq_false (by omega)
      clear h1 h2
      go_enter Try.func13, Try.ntmps13
      go_wp2
      go_ret
      exact ⟨by rw [HE.out]; rfl, (Below.refl _ _).alloc (Nat.le_refl _) _⟩
  · have HE : Hid (lightB sl el = false) := Lib.hid (decide_eq_false (show ¬ (sl ≤ 20 ∧ el ≤ 30) from fun h => h1 h.1))
    have b1 : decide ((sl : Int) ≤ 20) = false := decide_eq_false (by omega)
    clear h1
    go_enter Try.func13, Try.ntmps13
    go_wp2
    go_ret
    exact ⟨by rw [HE.out]; rfl, (Below.refl _ _).alloc (Nat.le_refl _) _⟩
end Go.Proofs.Ytnnimjaigciedaa
