/-
  chart's number, conjugate, on, spotAt: what they answer; memory that was there stays as it was.
-/
import Derived.Test.YtnnimjaigciedaaMem
import Derived.Test.YtnnimjaigciedaaNum
namespace Go.Proofs.Ytnnimjaigciedaa
open Go.RowKit

theorem number_any (x y : Int) (w : World) :
    Calls Try.prog 103 #[.agg #[.int .i64 x, .int .i64 y]] w fun e w' => e = .returned (.complex .f64 (floatOfInt .f64 x) (floatOfInt .f64 y)) ∧ Below w.heap.size w w' := by
  go_enter Try.func103, Try.ntmps103
  go_wp2
  go_ret
  exact ⟨rfl, (Below.refl _ _).alloc (Nat.le_refl _) _⟩

theorem conj_any (x y : Nat) (w : World) :
    Calls Try.prog 104 #[.complex .f64 x y] w fun e w' => e = .returned (.complex .f64 x (Op.negFloat .f64 y)) ∧ w = w' := by
  have hn : ∀ w, (Op.unary .neg (.float .f64 y)).run Try.prog w = .ok (.float .f64 (Op.negFloat .f64 y)) w := fun _ => rfl
  go_enter Try.func104, Try.ntmps104
  go_wp2
  go_ret
  exact ⟨rfl, rfl⟩

/-- A slice of spots (two numbers each), read as a list. -/
def SpotRow (w : World) (a : Option Addr) (l : List (Int × Int)) : Prop :=
  l = [] ∨ ∃ b off, a = some ⟨b, off, none⟩ ∧ b < w.heap.size ∧ ∀ i, i < l.length → w.cell? ⟨b, off + i * 2, none⟩ = some (.int .i64 (l.getD i (0, 0)).1) ∧ w.cell? ⟨b, off + i * 2 + 1, none⟩ = some (.int .i64 (l.getD i (0, 0)).2)

theorem SpotRow.below {w w' : World} {a : Option Addr} {l : List (Int × Int)} (h : SpotRow w a l) (hB : Below w.heap.size w w') : SpotRow w' a l := by
  rcases h with h1 | ⟨b, off, h4, h5, h6⟩
  · exact .inl h1
  · exact .inr ⟨b, off, h4, Nat.lt_of_lt_of_le h5 hB.size, fun i hi => by
      rw [hB.cell (p := ⟨b, off + i * 2, none⟩) h5, hB.cell (p := ⟨b, off + i * 2 + 1, none⟩) h5]
      exact h6 i hi⟩

/-- All of some spots are on the chart. -/
def AllOn (l : List (Int × Int)) : Prop := ∀ p ∈ l, On p.1 p.2
instance (l : List (Int × Int)) : Decidable (AllOn l) := by unfold AllOn; exact inferInstance

theorem drop_spot (l : List (Int × Int)) (k : Nat) (hk : k < l.length) : l.drop k = l.getD k (0, 0) :: l.drop (k + 1) := by
  have e : l.getD k (0, 0) = l[k] := by simp [List.getD, hk]
  rw [e]
  exact List.drop_eq_getElem_cons hk

theorem on_step {l : List (Int × Int)} {k : Nat} {x y : Int} (hk : k < l.length) (hx : l.getD k (0, 0) = (x, y)) (h : AllOn l ↔ AllOn (l.drop k)) :
    (On x y → (AllOn l ↔ AllOn (l.drop (k + 1)))) ∧ (¬ On x y → ¬ AllOn l) := by
  rw [drop_spot l k hk, hx] at h
  refine ⟨fun h1 => h.trans ?_, fun h1 h2 => h1 ((h.1 h2) (x, y) (by simp))⟩
  unfold AllOn
  simp only [List.mem_cons, forall_eq_or_imp]
  exact ⟨fun h => h.2, fun h => ⟨h1, h⟩⟩

set_option maxRecDepth 100000 in
set_option maxHeartbeats 1000000 in
theorem on_any (a : Option Addr) (cap : Nat) (l : List (Int × Int)) (w : World) (hN : SpotRow w a l) (hlen : l.length ≤ 9223372036854775807) :
    Calls Try.prog 102 #[.slice a l.length cap] w fun e w' => e = .returned (.bool (decide (AllOn l))) ∧ Below w.heap.size w w' := by
  rcases hN with rfl | ⟨b, off, rfl, hb, hc⟩
  · have e1 : decide (AllOn []) = true := by simp [AllOn]
    rw [e1]
    clear e1
    go_enter Try.func102, Try.ntmps102
    go_wp2
    refine wp_loop_rounds 1 ?_
    rw [rounds_succ]
    go_wp2
    go_ret
    exact ⟨rfl, Below.refl _ _⟩
  · have HC := Lib.hid hc
    clear hc
    obtain ⟨len, hl⟩ : ∃ n, l.length = n := ⟨_, rfl⟩
    rw [hl] at hlen ⊢
    have HL := Lib.hid hl
    clear hl
    go_enter Try.func102, Try.ntmps102
    go_wp2
    go_loopw [4, 7] (fun _ i wr => ∃ (k : Nat), k ≤ len ∧ i = .int .i64 k ∧ Hid (AllOn l ↔ AllOn (l.drop k)) ∧ Below w.heap.size w wr) (fun _ i _ => len - (intOf i).toNat)
    case atStart => exact ⟨0, Nat.zero_le _, rfl, Lib.hid Iff.rfl, Below.refl _ _⟩
    case round =>
      obtain ⟨k, hk, rfl, HA, hB⟩ := hrel
      by_cases hlt : k < len
      · obtain ⟨x, hx⟩ : ∃ x, l.getD k (0, 0) = x := ⟨_, rfl⟩
        obtain ⟨hc1, hc2⟩ := HC.out k (by rw [HL.out]; exact hlt)
        rw [hx] at hc1 hc2
        obtain ⟨x, y⟩ := x
        have HX := Lib.hid (on_step (by rw [HL.out]; exact hlt) hx HA.out)
        rw [← hB.cell (p := ⟨b, off + k * 2, none⟩) hb] at hc1
        rw [← hB.cell (p := ⟨b, off + k * 2 + 1, none⟩) hb] at hc2
        clear hx
        have HB := Lib.hid hB
        have hb2 : b < wr.heap.size := Nat.lt_of_lt_of_le hb hB.size
        clear hB
        simp only at hc1 hc2
        by_cases hon : On x y
        · have HT := Lib.hid (HX.out.1 hon)
          obtain ⟨o1, o2, o3, o4⟩ := hon
          go_wp2
          go_roundw
          case rel => exact ⟨k + 1, by omega, by go_num, HT, HB.out.alloc HB.out.size _⟩
          case measure => simp [intOf]; omega
        · have HT := Lib.hid (HX.out.2 hon)
          have h4 : x < -1000 ∨ (-1000 ≤ x ∧ 1000 < x) ∨ (-1000 ≤ x ∧ x ≤ 1000 ∧ y < -1000) ∨ (-1000 ≤ x ∧ x ≤ 1000 ∧ -1000 ≤ y ∧ 1000 < y) := by
            unfold On at hon
            omega
          clear hon
          rcases h4 with o1 | ⟨o1, o2⟩ | ⟨o1, o2, o3⟩ | ⟨o1, o2, o3, o4⟩
          all_goals
            go_wp2
            go_ret
            exact ⟨by rw [decide_eq_false HT.out]; rfl, HB.out.alloc HB.out.size _⟩
      · have HT : Hid (AllOn l) := Lib.hid (HA.out.2 (by rw [List.drop_eq_nil_of_le (by rw [HL.out]; omega)]; intro p hp; cases hp))
        go_wp2
        go_ret
        exact ⟨by rw [decide_eq_true HT.out]; rfl, hB⟩

def resV (r : Res) : Value := .tuple #[.agg #[.int .i64 r.x, .int .i64 r.y], .int .i64 r.e]

theorem allOn1 (x y : Int) : AllOn [(x, y)] ↔ On x y := by simp [AllOn]
theorem allOn2 (a b c d : Int) : AllOn [(a, b), (c, d)] ↔ On a b ∧ On c d := by simp [AllOn]
theorem allOn3 (a b c d x y : Int) : AllOn [(a, b), (c, d), (x, y)] ↔ On a b ∧ On c d ∧ On x y := by simp [AllOn]

theorem on1_any (g : Nat) (x y : Int) (w : World) (h1 : w.cell? ⟨g, 0, none⟩ = some (.int .i64 x)) (h2 : w.cell? ⟨g, 1, none⟩ = some (.int .i64 y)) (hg : g < w.heap.size) :
    Calls Try.prog 102 #[.slice (some ⟨g, 0, none⟩) 1 1] w fun e w' => e = .returned (.bool (decide (On x y))) ∧ Below w.heap.size w w' := by
  refine (on_any (some ⟨g, 0, none⟩) 1 [(x, y)] w (.inr ⟨g, 0, rfl, hg, ?_⟩) (by simp)).mono ?_
  · intro i hi
    match i, hi with
    | 0, _ => exact ⟨h1, h2⟩
  · rintro e w' ⟨rfl, hB⟩
    exact ⟨by simp [allOn1], hB⟩

theorem on2_any (g : Nat) (a b c d : Int) (w : World) (h1 : w.cell? ⟨g, 0, none⟩ = some (.int .i64 a)) (h2 : w.cell? ⟨g, 1, none⟩ = some (.int .i64 b)) (h3 : w.cell? ⟨g, 2, none⟩ = some (.int .i64 c)) (h4 : w.cell? ⟨g, 3, none⟩ = some (.int .i64 d)) (hg : g < w.heap.size) :
    Calls Try.prog 102 #[.slice (some ⟨g, 0, none⟩) 2 2] w fun e w' => e = .returned (.bool (decide (On a b ∧ On c d))) ∧ Below w.heap.size w w' := by
  refine (on_any (some ⟨g, 0, none⟩) 2 [(a, b), (c, d)] w (.inr ⟨g, 0, rfl, hg, ?_⟩) (by simp)).mono ?_
  · intro i hi
    match i, hi with
    | 0, _ => exact ⟨h1, h2⟩
    | 1, _ => exact ⟨h3, h4⟩
  · rintro e w' ⟨rfl, hB⟩
    exact ⟨by simp [allOn2], hB⟩

theorem on3_any (g : Nat) (a b c d x y : Int) (w : World) (h1 : w.cell? ⟨g, 0, none⟩ = some (.int .i64 a)) (h2 : w.cell? ⟨g, 1, none⟩ = some (.int .i64 b)) (h3 : w.cell? ⟨g, 2, none⟩ = some (.int .i64 c)) (h4 : w.cell? ⟨g, 3, none⟩ = some (.int .i64 d))
    (h5 : w.cell? ⟨g, 4, none⟩ = some (.int .i64 x)) (h6 : w.cell? ⟨g, 5, none⟩ = some (.int .i64 y)) (hg : g < w.heap.size) :
    Calls Try.prog 102 #[.slice (some ⟨g, 0, none⟩) 3 3] w fun e w' => e = .returned (.bool (decide (On a b ∧ On c d ∧ On x y))) ∧ Below w.heap.size w w' := by
  refine (on_any (some ⟨g, 0, none⟩) 3 [(a, b), (c, d), (x, y)] w (.inr ⟨g, 0, rfl, hg, ?_⟩) (by simp)).mono ?_
  · intro i hi
    match i, hi with
    | 0, _ => exact ⟨h1, h2⟩
    | 1, _ => exact ⟨h3, h4⟩
    | 2, _ => exact ⟨h5, h6⟩
  · rintro e w' ⟨rfl, hB⟩
    exact ⟨by simp [allOn3], hB⟩

end Go.Proofs.Ytnnimjaigciedaa
