/-
  Blocks that are known whole, and what is written in one of them alone.
  The chart's numbers: what the document's answers are, as plain functions; complex numbers of whole parts.
  chart's number, conjugate, on, spotAt: what they answer; memory that was there stays as it was.
  chart's spotAt, Move, Times, Turn, Mirror, Far, Side: what they answer; memory that was there stays as it was.
-/
import Derived.Test.YtnnimjaigciedaaProg
import Derived.ProofKit
import Derived.WalkKit
import Derived.WalkSmall
import Derived.WalkLawsBesides
import Derived.WalkSpells
import Derived.LoopN
import Derived.Lib.Hide
import Derived.Maps.AppendAt
import Derived.Deep.Draws
import Derived.Deep.QuietTactic
import Derived.Deep.RegionHeld3
import Derived.Deep.RegionLaw
import Derived.BigQuiet
import Derived.StillTailTactics
import Derived.RegionTactic
import Derived.BigRegion
import Derived.Deep.MidRow
import Derived.Deep.WholeRow
import Derived.Laws.CopyOwn
import Derived.Test.YtnnimjaigciedaaFlt
import Derived.Laws.BitsLemmas
import Derived.Laws.ResultCell
namespace Go.Proofs.Ytnnimjaigciedaa
open Go.RowKit
set_option linter.unusedVariables false

/-- A block that is known whole, and may be written. -/
def Blk (w : World) (g : Nat) (t : TypeId) (cs : List Value) : Prop := w.heap[g]? = some (.cells cs.toArray t (0, 0))

section
variable {w w' : World} {g : Nat} {t : TypeId} {cs : List Value}
theorem Blk.lt (h : Blk w g t cs) : g < w.heap.size := by
  rcases Nat.lt_or_ge g w.heap.size with hlt | hge
  · exact hlt
  · unfold Blk at h; rw [Array.getElem?_eq_none hge] at h; cases h
theorem Blk.cell (h : Blk w g t cs) (i : Nat) : w.cell? ⟨g, i, none⟩ = cs[i]? := by
  rw [cell_of_row w g i cs.toArray t (0, 0) h]; simp
theorem Blk.frozen (h : Blk w g t cs) (i : Nat) : w.frozen? ⟨g, i, none⟩ = false := by
  unfold Blk at h
  simp [World.frozen?, h]
theorem Blk.new (w : World) (t : TypeId) (cs : List Value) : Blk (w.alloc (.cells cs.toArray t)) w.heap.size t cs := heap_alloc_last w _
theorem Blk.drewN (h : Blk w g t cs) (n : Nat) : Blk (w.drewN n) g t cs := h
theorem Blk.alloc (h : Blk w g t cs) (o : Obj) : Blk (w.alloc o) g t cs := (Below.heap_alloc w o g h.lt).trans h
theorem Blk.set_ (h : Blk w g t cs) (i : Nat) (u : Value) : Blk (w.setCell ⟨g, i, none⟩ u) g t (cs.set i u) := by
  unfold Blk at h ⊢
  rw [setCell_eq_setRow w g i cs.toArray t (0, 0) u h, setRow_heap w g cs.toArray _ t _ h]
  simp
theorem Blk.far (h : Blk w g t cs) {p : Addr} (hp : g ≠ p.block) (u : Value) : Blk (w.setCell p u) g t cs := (Below.heap_setCell w p u g hp).trans h
theorem Blk.below {B : Nat} (h : Blk w g t cs) (hb : Below B w w') (hg : g < B) : Blk w' g t cs := (hb.block g hg).trans h
theorem Blk.grown {row : Option Nat} (h : Blk w g t cs) (hb : w.grownBy w' row) (hg : some g ≠ row) : Blk w' g t cs := (hb.block g h.lt hg).trans h
theorem Blk.ne_ {g' : Nat} {t' : TypeId} {cs' : List Value} (h : Blk w g t cs) (h' : Blk w g' t' cs') (hne : t ≠ t') : g ≠ g' := by
  rintro rfl
  unfold Blk at h h'
  rw [h] at h'
  injection h' with h'
  injection h' with _ ht
  exact hne ht
theorem Blk.range (h : Blk w g t cs) (o n : Nat) : w.rangeAt g o ((cs.drop o).take n) := fun j v hv => by
  rw [h.cell]
  rw [List.getElem?_take] at hv
  split at hv
  · rw [← hv, List.getElem?_drop]
  · cases hv
theorem Blk.all (h : Blk w g t cs) : w.rangeAt g 0 cs := fun j v hv => by
  rw [h.cell, Nat.zero_add]
  exact hv
theorem Blk.there (h : Blk w g t cs) (o n : Nat) (hn : o + n ≤ cs.length) : w.there g o n := fun j hj => by
  rw [h.cell, h.frozen, List.getElem?_eq_getElem (by omega)]
  exact ⟨rfl, rfl⟩
theorem Blk.setRow (h : Blk w g t cs) (c : List Value) : Blk (w.setRow g c.toArray) g t c := setRow_heap w g cs.toArray c.toArray t _ h
end

/-- A spot's block. -/
def Pt (w : World) (g : Nat) (t : TypeId) (x y : Int) : Prop := Blk w g t [.int .i64 x, .int .i64 y]
section
variable {w w' : World} {g : Nat} {t : TypeId} {x y : Int}
theorem Pt.c0 (h : Pt w g t x y) : w.cell? ⟨g, 0, none⟩ = some (.int .i64 x) := Blk.cell h 0
theorem Pt.c1 (h : Pt w g t x y) : w.cell? ⟨g, 1, none⟩ = some (.int .i64 y) := Blk.cell h 1
theorem Pt.f0 (h : Pt w g t x y) : w.frozen? ⟨g, 0, none⟩ = false := Blk.frozen h 0
theorem Pt.f1 (h : Pt w g t x y) : w.frozen? ⟨g, 1, none⟩ = false := Blk.frozen h 1
theorem Pt.below {B : Nat} (h : Pt w g t x y) (hb : Below B w w') (hg : g < B) : Pt w' g t x y := Blk.below h hb hg
theorem Pt.far (h : Pt w g t x y) {g2 : Nat} (hn : g ≠ g2) (u v : Value) : Pt ((w.setCell ⟨g2, 0, none⟩ u).setCell ⟨g2, 1, none⟩ v) g t x y := (Blk.far (Blk.far h hn u) hn v : Blk _ _ _ _)
theorem Pt.drewN (h : Pt w g t x y) (n : Nat) : Pt (w.drewN n) g t x y := h
theorem Pt.lt (h : Pt w g t x y) : g < w.heap.size := Blk.lt h
theorem Pt.keep (h : Pt w g t x y) (hb : Below w.heap.size w w') : Pt w' g t x y := Blk.below h hb (Blk.lt h)
end

theorem Blk.mk_ {w : World} {g : Nat} {t : TypeId} {cs : List Value} (h : w.heap.size = g) : Blk (w.alloc (.cells cs.toArray t)) g t cs := h ▸ Blk.new w t cs
theorem Pt.mk_ {w : World} {g : Nat} {t : TypeId} {x y : Int} (h : w.heap.size = g) : Pt (w.alloc (.cells #[.int .i64 x, .int .i64 y] t)) g t x y := h ▸ Blk.new w t [.int .i64 x, .int .i64 y]
theorem Pt.alloc {w : World} {g : Nat} {t : TypeId} {x y : Int} (h : Pt w g t x y) (o : Obj) : Pt (w.alloc o) g t x y := Blk.alloc h o
theorem Pt.set {w : World} {g : Nat} {t : TypeId} {x y : Int} (h : Pt w g t x y) (a b : Int) : Pt ((w.setCell ⟨g, 0, none⟩ (.int .i64 a)).setCell ⟨g, 1, none⟩ (.int .i64 b)) g t a b := Blk.set_ (Blk.set_ h 0 (.int .i64 a)) 1 (.int .i64 b)

/-- Only block g, and what is new, has turned. -/
theorem only_drewN {a w : World} {row : Option Nat} (h : a.grownBy w row) (n : Nat) : a.grownBy (w.drewN n) row := ⟨h.os, h.tape, h.output, h.size, h.block⟩
theorem only_alloc {a w : World} {row : Option Nat} (h : a.grownBy w row) (o : Obj) : a.grownBy (w.alloc o) row :=
  ⟨h.os, h.tape, h.output, Nat.le_trans h.size (by simp), fun i hi hne => (Below.heap_alloc w o i (Nat.lt_of_lt_of_le hi h.size)).trans (h.block i hi hne)⟩
theorem only_setCell {a w : World} {g : Nat} (h : a.grownBy w (some g)) {p : Addr} (hp : p.block = g ∨ a.heap.size ≤ p.block) (u : Value) : a.grownBy (w.setCell p u) (some g) :=
  ⟨h.os, h.tape, h.output, by simpa [World.setCell] using h.size, fun i hi hne => (Below.heap_setCell w p u i (by
    rintro rfl
    rcases hp with hp | hp
    · exact hne (by rw [hp])
    · omega)).trans (h.block i hi hne)⟩
theorem only_setRow {a w : World} {g : Nat} (h : a.grownBy w (some g)) (c : Array Value) : a.grownBy (w.setRow g c) (some g) :=
  ⟨h.os, h.tape, h.output, by simpa using h.size, fun i hi hne => (setRow_other w g i c (by rintro rfl; exact hne rfl)).trans (h.block i hi hne)⟩
theorem only_below {a w w1 : World} {g : Nat} (h : a.grownBy w (some g)) (hb : Below w.heap.size w w1) : a.grownBy w1 (some g) :=
  ⟨hb.os.trans h.os, hb.tape.trans h.tape, hb.output.trans h.output, Nat.le_trans h.size hb.size, fun i hi hn => (hb.block i (Nat.lt_of_lt_of_le hi h.size)).trans (h.block i hi hn)⟩
theorem only_trans {a b c : World} {g : Nat} (h : a.grownBy b (some g)) (k : b.grownBy c (some g)) : a.grownBy c (some g) := h.trans k
theorem below_drewN {B : Nat} {a w : World} (h : Below B a w) (n : Nat) : Below B a (w.drewN n) := ⟨h.os, h.tape, h.output, h.size, h.block⟩
theorem only_up {a w : World} {g : Nat} (h : a.grownBy w (some g)) {B : Nat} (hB : B ≤ g) (hs : B ≤ a.heap.size) : Below B a w :=
  ⟨h.os, h.tape, h.output, h.size, fun i hi => h.block i (by omega) (fun e => by injection e; omega)⟩
theorem only_refl (w : World) (g : Option Nat) : w.grownBy w g := World.grownBy.refl w g
end Go.Proofs.Ytnnimjaigciedaa
namespace Go.Proofs.Ytnnimjaigciedaa

/-- On the chart. -/
def On (x y : Int) : Prop := -1000 ≤ x ∧ x ≤ 1000 ∧ -1000 ≤ y ∧ y ≤ 1000
instance (x y : Int) : Decidable (On x y) := by unfold On; exact inferInstance

/-- A spot and an error. -/
structure Res where
  x : Int
  y : Int
  e : Int
deriving DecidableEq

def held (x y : Int) : Res := if On x y then ⟨x, y, 0⟩ else ⟨0, 0, 11⟩
def moveP (a b c d : Int) : Res := if On a b ∧ On c d then held (a + c) (b + d) else ⟨0, 0, 1⟩
def timesP (a b c d : Int) : Res := if On a b ∧ On c d then held (a * c - b * d) (a * d + b * c) else ⟨0, 0, 1⟩
def rotX : Nat → Int → Int → Int
  | 0, x, _ => x
  | k + 1, x, y => rotX k (-y) x
def rotY : Nat → Int → Int → Int
  | 0, _, y => y
  | k + 1, x, y => rotY k (-y) x
def turnP (a b c d n : Int) : Res := if On a b ∧ On c d then held (c + rotX (n % 4).toNat (a - c) (b - d)) (d + rotY (n % 4).toNat (a - c) (b - d)) else ⟨0, 0, 1⟩
def mirrorP (a b : Int) : Res := if On a b then ⟨a, -b, 0⟩ else ⟨0, 0, 1⟩
def farP (a b c d : Int) : Int := if On a b ∧ On c d then (a - c) * (a - c) + (b - d) * (b - d) else -1
def crossP (a b c d x y : Int) : Int := (c - a) * (y - b) - (d - b) * (x - a)
def sideP (a b c d x y : Int) : Int := if On a b ∧ On c d ∧ On x y then (if 0 < crossP a b c d x y then 1 else if crossP a b c d x y < 0 then -1 else 0) else 0

theorem mul_bound {a b A B : Int} (h1 : -A ≤ a) (h2 : a ≤ A) (h3 : -B ≤ b) (h4 : b ≤ B) : -(A * B) ≤ a * b ∧ a * b ≤ A * B := by
  have hA : 0 ≤ A := by omega
  have hB : 0 ≤ B := by omega
  have e1 : 0 ≤ (A - a) * (B + b) := Int.mul_nonneg (by omega) (by omega)
  have e2 : 0 ≤ (A + a) * (B - b) := Int.mul_nonneg (by omega) (by omega)
  have e3 : 0 ≤ (A - a) * (B - b) := Int.mul_nonneg (by omega) (by omega)
  have e4 : 0 ≤ (A + a) * (B + b) := Int.mul_nonneg (by omega) (by omega)
  simp only [Int.sub_mul, Int.add_mul, Int.mul_sub, Int.mul_add] at e1 e2 e3 e4
  generalize A * B = M at *
  generalize a * b = m at *
  generalize A * b = u at *
  generalize a * B = v at *
  omega

theorem i64_and3 (n : Int) : bits .and .i64 n 3 = n % 4 := by
  have h3 : (BitVec.ofInt 64 3).toNat = 2 ^ 2 - 1 := by decide
  have key : (BitVec.ofInt 64 n &&& BitVec.ofInt 64 3).toNat = (n % ((2 ^ 64 : Nat) : Int)).toNat % 2 ^ 2 := by
    rw [BitVec.toNat_and, BitVec.toNat_ofInt, h3, Nat.and_two_pow_sub_one_eq_mod]
  show IntKind.i64.wrap ((BitVec.ofInt 64 n &&& BitVec.ofInt 64 3).toNat : Nat) = n % 4
  rw [key, IntKind.wrap_i64]
  omega

/-- A complex number of two whole parts. -/
theorem csum {x y u v : Nat} {a b c d : Int} (hx : IsF x a) (hy : IsF y b) (hu : IsF u c) (hv : IsF v d) (h1 : (a + c).natAbs < 2 ^ 53) (h2 : (b + d).natAbs < 2 ^ 53) :
    ∃ re im, cSumBits .add .f64 x y u v = some (re, im) ∧ IsF re (a + c) ∧ IsF im (b + d) := by
  obtain ⟨r, e1, f1⟩ := hx.add hu h1
  obtain ⟨i, e2, f2⟩ := hy.add hv h2
  exact ⟨r, i, by simp [cSumBits, e1, e2], f1, f2⟩

theorem cdiff {x y u v : Nat} {a b c d : Int} (hx : IsF x a) (hy : IsF y b) (hu : IsF u c) (hv : IsF v d) (h1 : (a - c).natAbs < 2 ^ 53) (h2 : (b - d).natAbs < 2 ^ 53) :
    ∃ re im, cSumBits .sub .f64 x y u v = some (re, im) ∧ IsF re (a - c) ∧ IsF im (b - d) := by
  obtain ⟨r, e1, f1⟩ := hx.sub hu h1
  obtain ⟨i, e2, f2⟩ := hy.sub hv h2
  exact ⟨r, i, by simp [cSumBits, e1, e2], f1, f2⟩

theorem cprod {x y u v : Nat} {a b c d : Int} (hx : IsF x a) (hy : IsF y b) (hu : IsF u c) (hv : IsF v d) (h1 : (a * c).natAbs < 2 ^ 53) (h2 : (b * d).natAbs < 2 ^ 53) (h3 : (a * d).natAbs < 2 ^ 53) (h4 : (b * c).natAbs < 2 ^ 53)
    (h5 : (a * c - b * d).natAbs < 2 ^ 53) (h6 : (a * d + b * c).natAbs < 2 ^ 53) : ∃ re im, cMulBits x y u v = some (re, im) ∧ IsF re (a * c - b * d) ∧ IsF im (a * d + b * c) := by
  obtain ⟨r1, e1, f1⟩ := hx.mul hu h1
  obtain ⟨r2, e2, f2⟩ := hy.mul hv h2
  obtain ⟨r3, e3, f3⟩ := hx.mul hv h3
  obtain ⟨r4, e4, f4⟩ := hy.mul hu h4
  obtain ⟨r5, e5, f5⟩ := f1.sub f2 h5
  obtain ⟨r6, e6, f6⟩ := f3.add f4 h6
  exact ⟨r5, r6, by simp [cMulBits, e1, e2, e3, e4, e5, e6], f5, f6⟩
end Go.Proofs.Ytnnimjaigciedaa
namespace Go.Proofs.Ytnnimjaigciedaa
open Go.RowKit

theorem number_any (x y : Int) (w : World) :
    Calls Try.prog 103 #[.agg #[.int .i64 x, .int .i64 y]] w fun e w' => e = .returned (.complex .f64 (floatOfInt .f64 x) (floatOfInt .f64 y)) ∧ Below w.heap.size w w' := by
  go_enter Try.func103, Try.ntmps103
  go_wp2
  go_ret
  exact ⟨rfl, (Below.refl _ _).alloc (Nat.le_refl _) _⟩

theorem conj_any (x y : Nat) (w : World) :
    Calls Try.prog 104 #[.complex .f64 x y] w fun e w' => e = .returned (.complex .f64 x (Op.negFloat .f64 y)) ∧ w = w' := by
  have hn : ∀ w, (Op.unary .neg (.float .f64 y)).run Try.prog w = .ok (.float .f64 (Op.negFloat .f64 y)) w := fun _ => rfl
  go_enter Try.func104, Try.ntmps104
  go_wp2
  go_ret
  exact ⟨rfl, rfl⟩

/-- A slice of spots (two numbers each), read as a list. -/
def SpotRow (w : World) (a : Option Addr) (l : List (Int × Int)) : Prop :=
  l = [] ∨ ∃ b off, a = some ⟨b, off, none⟩ ∧ b < w.heap.size ∧ ∀ i, i < l.length → w.cell? ⟨b, off + i * 2, none⟩ = some (.int .i64 (l.getD i (0, 0)).1) ∧ w.cell? ⟨b, off + i * 2 + 1, none⟩ = some (.int .i64 (l.getD i (0, 0)).2)

theorem SpotRow.below {w w' : World} {a : Option Addr} {l : List (Int × Int)} (h : SpotRow w a l) (hB : Below w.heap.size w w') : SpotRow w' a l := by
  rcases h with h1 | ⟨b, off, h4, h5, h6⟩
  · exact .inl h1
  · exact .inr ⟨b, off, h4, Nat.lt_of_lt_of_le h5 hB.size, fun i hi => by
      rw [hB.cell (p := ⟨b, off + i * 2, none⟩) h5, hB.cell (p := ⟨b, off + i * 2 + 1, none⟩) h5]
      exact h6 i hi⟩

/-- All of some spots are on the chart. -/
def AllOn (l : List (Int × Int)) : Prop := ∀ p ∈ l, On p.1 p.2
instance (l : List (Int × Int)) : Decidable (AllOn l) := by unfold AllOn; exact inferInstance

theorem drop_spot (l : List (Int × Int)) (k : Nat) (hk : k < l.length) : l.drop k = l.getD k (0, 0) :: l.drop (k + 1) := by
  have e : l.getD k (0, 0) = l[k] := by simp [List.getD, hk]
  rw [e]
  exact List.drop_eq_getElem_cons hk

theorem on_step {l : List (Int × Int)} {k : Nat} {x y : Int} (hk : k < l.length) (hx : l.getD k (0, 0) = (x, y)) (h : AllOn l ↔ AllOn (l.drop k)) :
    (On x y → (AllOn l ↔ AllOn (l.drop (k + 1)))) ∧ (¬ On x y → ¬ AllOn l) := by
  rw [drop_spot l k hk, hx] at h
  refine ⟨fun h1 => h.trans ?_, fun h1 h2 => h1 ((h.1 h2) (x, y) (by simp))⟩
  unfold AllOn
  simp only [List.mem_cons, forall_eq_or_imp]
  exact ⟨fun h => h.2, fun h => ⟨h1, h⟩⟩

set_option maxRecDepth 100000 in
set_option maxHeartbeats 1000000 in
theorem on_any (a : Option Addr) (cap : Nat) (l : List (Int × Int)) (w : World) (hN : SpotRow w a l) (hlen : l.length ≤ 9223372036854775807) :
    Calls Try.prog 102 #[.slice a l.length cap] w fun e w' => e = .returned (.bool (decide (AllOn l))) ∧ Below w.heap.size w w' := by
  rcases hN with rfl | ⟨b, off, rfl, hb, hc⟩
  · have e1 : decide (AllOn []) = true := by simp [AllOn]
    rw [e1]
    clear e1
    go_enter Try.func102, Try.ntmps102
    go_wp2
    refine wp_loop_rounds 1 ?_
    rw [rounds_succ]
    go_wp2
    go_ret
    exact ⟨rfl, Below.refl _ _⟩
  · have HC := Lib.hid hc
    clear hc
    obtain ⟨len, hl⟩ : ∃ n, l.length = n := ⟨_, rfl⟩
    rw [hl] at hlen ⊢
    have HL := Lib.hid hl
    clear hl
    go_enter Try.func102, Try.ntmps102
    go_wp2
    go_loopw [4, 7] (fun _ i wr => ∃ (k : Nat), k ≤ len ∧ i = .int .i64 k ∧ Hid (AllOn l ↔ AllOn (l.drop k)) ∧ Below w.heap.size w wr) (fun _ i _ => len - (intOf i).toNat)
    case atStart => exact ⟨0, Nat.zero_le _, rfl, Lib.hid Iff.rfl, Below.refl _ _⟩
    case round =>
      obtain ⟨k, hk, rfl, HA, hB⟩ := hrel
      by_cases hlt : k < len
      · obtain ⟨x, hx⟩ : ∃ x, l.getD k (0, 0) = x := ⟨_, rfl⟩
        obtain ⟨hc1, hc2⟩ := HC.out k (by rw [HL.out]; exact hlt)
        rw [hx] at hc1 hc2
        obtain ⟨x, y⟩ := x
        have HX := Lib.hid (on_step (by rw [HL.out]; exact hlt) hx HA.out)
        rw [← hB.cell (p := ⟨b, off + k * 2, none⟩) hb] at hc1
        rw [← hB.cell (p := ⟨b, off + k * 2 + 1, none⟩) hb] at hc2
        clear hx
        have HB := Lib.hid hB
        have hb2 : b < wr.heap.size := Nat.lt_of_lt_of_le hb hB.size
        clear hB
        simp only at hc1 hc2
        by_cases hon : On x y
        · have HT := Lib.hid (HX.out.1 hon)
          obtain ⟨o1, o2, o3, o4⟩ := hon
          go_wp2
          go_roundw
          case rel => exact ⟨k + 1, by omega, by go_num, HT, HB.out.alloc HB.out.size _⟩
          case measure => simp [intOf]; omega
        · have HT := Lib.hid (HX.out.2 hon)
          have h4 : x < -1000 ∨ (-1000 ≤ x ∧ 1000 < x) ∨ (-1000 ≤ x ∧ x ≤ 1000 ∧ y < -1000) ∨ (-1000 ≤ x ∧ x ≤ 1000 ∧ -1000 ≤ y ∧ 1000 < y) := by
            unfold On at hon
            omega
          clear hon
          rcases h4 with o1 | ⟨o1, o2⟩ | ⟨o1, o2, o3⟩ | ⟨o1, o2, o3, o4⟩
          all_goals
            go_wp2
            go_ret
            exact ⟨by rw [decide_eq_false HT.out]; rfl, HB.out.alloc HB.out.size _⟩
      · have HT : Hid (AllOn l) := Lib.hid (HA.out.2 (by rw [List.drop_eq_nil_of_le (by rw [HL.out]; omega)]; intro p hp; cases hp))
        go_wp2
        go_ret
        exact ⟨by rw [decide_eq_true HT.out]; rfl, hB⟩

def resV (r : Res) : Value := .tuple #[.agg #[.int .i64 r.x, .int .i64 r.y], .int .i64 r.e]

theorem allOn1 (x y : Int) : AllOn [(x, y)] ↔ On x y := by simp [AllOn]
theorem allOn2 (a b c d : Int) : AllOn [(a, b), (c, d)] ↔ On a b ∧ On c d := by simp [AllOn]
theorem allOn3 (a b c d x y : Int) : AllOn [(a, b), (c, d), (x, y)] ↔ On a b ∧ On c d ∧ On x y := by simp [AllOn]

theorem on1_any (g : Nat) (x y : Int) (w : World) (h1 : w.cell? ⟨g, 0, none⟩ = some (.int .i64 x)) (h2 : w.cell? ⟨g, 1, none⟩ = some (.int .i64 y)) (hg : g < w.heap.size) :
    Calls Try.prog 102 #[.slice (some ⟨g, 0, none⟩) 1 1] w fun e w' => e = .returned (.bool (decide (On x y))) ∧ Below w.heap.size w w' := by
  refine (on_any (some ⟨g, 0, none⟩) 1 [(x, y)] w (.inr ⟨g, 0, rfl, hg, ?_⟩) (by simp)).mono ?_
  · intro i hi
    match i, hi with
    | 0, _ => exact ⟨h1, h2⟩
  · rintro e w' ⟨rfl, hB⟩
    exact ⟨by simp [allOn1], hB⟩

theorem on2_any (g : Nat) (a b c d : Int) (w : World) (h1 : w.cell? ⟨g, 0, none⟩ = some (.int .i64 a)) (h2 : w.cell? ⟨g, 1, none⟩ = some (.int .i64 b)) (h3 : w.cell? ⟨g, 2, none⟩ = some (.int .i64 c)) (h4 : w.cell? ⟨g, 3, none⟩ = some (.int .i64 d)) (hg : g < w.heap.size) :
    Calls Try.prog 102 #[.slice (some ⟨g, 0, none⟩) 2 2] w fun e w' => e = .returned (.bool (decide (On a b ∧ On c d))) ∧ Below w.heap.size w w' := by
  refine (on_any (some ⟨g, 0, none⟩) 2 [(a, b), (c, d)] w (.inr ⟨g, 0, rfl, hg, ?_⟩) (by simp)).mono ?_
  · intro i hi
    match i, hi with
    | 0, _ => exact ⟨h1, h2⟩
    | 1, _ => exact ⟨h3, h4⟩
  · rintro e w' ⟨rfl, hB⟩
    exact ⟨by simp [allOn2], hB⟩

theorem on3_any (g : Nat) (a b c d x y : Int) (w : World) (h1 : w.cell? ⟨g, 0, none⟩ = some (.int .i64 a)) (h2 : w.cell? ⟨g, 1, none⟩ = some (.int .i64 b)) (h3 : w.cell? ⟨g, 2, none⟩ = some (.int .i64 c)) (h4 : w.cell? ⟨g, 3, none⟩ = some (.int .i64 d))
    (h5 : w.cell? ⟨g, 4, none⟩ = some (.int .i64 x)) (h6 : w.cell? ⟨g, 5, none⟩ = some (.int .i64 y)) (hg : g < w.heap.size) :
    Calls Try.prog 102 #[.slice (some ⟨g, 0, none⟩) 3 3] w fun e w' => e = .returned (.bool (decide (On a b ∧ On c d ∧ On x y))) ∧ Below w.heap.size w w' := by
  refine (on_any (some ⟨g, 0, none⟩) 3 [(a, b), (c, d), (x, y)] w (.inr ⟨g, 0, rfl, hg, ?_⟩) (by simp)).mono ?_
  · intro i hi
    match i, hi with
    | 0, _ => exact ⟨h1, h2⟩
    | 1, _ => exact ⟨h3, h4⟩
    | 2, _ => exact ⟨h5, h6⟩
  · rintro e w' ⟨rfl, hB⟩
    exact ⟨by simp [allOn3], hB⟩

end Go.Proofs.Ytnnimjaigciedaa
namespace Go.Proofs.Ytnnimjaigciedaa
open Go.RowKit
set_option linter.unusedVariables false

theorem load24 (w : World) (g t : Nat) (x y : Int) (h : Pt w g t x y) : (loadVar 62 ⟨g, 0, none⟩).run Try.prog w = .ok (.agg #[.int .i64 x, .int .i64 y]) w := by
  have k1 := h.c0
  have k2 := h.c1
  go_simp
theorem load23 (w : World) (g t : Nat) (x y : Int) (h : Pt w g t x y) : (loadVar 56 ⟨g, 0, none⟩).run Try.prog w = .ok (.agg #[.int .i64 x, .int .i64 y]) w := by
  have k1 := h.c0
  have k2 := h.c1
  go_simp

theorem results24 {fn : Func} {p u : Tmp} (h : fn.results = #[.cell p 62, .tmp u]) (tmps : Array Value) (w : World) (g t : Nat) (x y : Int) (v : Value) (hp : tmps.getD p undef = .pointer (some ⟨g, 0, none⟩)) (hu : tmps.getD u undef = v) (hP : Pt w g t x y) :
    (results fn tmps).run Try.prog w = .ok (.tuple #[.agg #[.int .i64 x, .int .i64 y], v]) w := by
  rw [results_cell_tmp h, hp, hu]
  simp [asAddr, Result.andThen, load24 w g t x y hP]
theorem results23 {fn : Func} {p u : Tmp} (h : fn.results = #[.cell p 56, .tmp u]) (tmps : Array Value) (w : World) (g t : Nat) (x y : Int) (v : Value) (hp : tmps.getD p undef = .pointer (some ⟨g, 0, none⟩)) (hu : tmps.getD u undef = v) (hP : Pt w g t x y) :
    (results fn tmps).run Try.prog w = .ok (.tuple #[.agg #[.int .i64 x, .int .i64 y], v]) w := by
  rw [results_cell_tmp h, hp, hu]
  simp [asAddr, Result.andThen, load23 w g t x y hP]



end Go.Proofs.Ytnnimjaigciedaa
