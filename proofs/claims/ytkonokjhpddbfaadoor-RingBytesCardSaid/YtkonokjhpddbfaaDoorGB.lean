/-
  The document's own turns (tollhouseref03.right, function 31) and its words off a text in base sixteen (at, function 24): what they answer; nothing is written.
  Rows of words that a call itself made (slices of uint64), and what is laid behind them.
  What the document's block is made of: places of rows, words by sums and turns, the eight words gone round.
  The document's block (tollhouseref03.Tables.block, function 25): the words behind one block more; nothing that was there is written.
  Numbers of the document's sum: a number's last bytes, the sum's bytes off the words, the padding, what the texts in base sixteen say.
  The document's sum (tollhouseref03.Tables.Of, function 12): the standard's sum of the bytes; nothing that was there is written.
  tollhouseref03.Text (function 20): what is summed for a domain of parts is the text as the program sums it; nothing that was there is written.
  The document's For (function 17) and Lock (function 19), the program's Lock (function 18): the sum of the document's text; nothing that was there is written.
  tollhouseref03.Make (function 11): the standard's tables as texts; tollhouselaw03.MillSums (function 3): the sum of any bytes is the document's.
-/
import Derived.Test.YtkonokjhpddbfaaDoorGA
import Derived.Deep.RegionHeld3
import Derived.Deep.AppendLies
import Derived.Deep.Cut
import Derived.BigRegion
import Derived.StillTailTactics
import Derived.Deep.OwnRows
import Derived.Laws.IdiomStrings
namespace Go.Proofs.YtkonokjhpddbfaaDoor
open Go.RowKit
set_option linter.unusedVariables false

theorem u64_in (n : Nat) (h : n < 18446744073709551616) : IntKind.u64.wrap (n : Int) = (n : Int) := IntWalk.u64_in _ (by omega)
/-- A letter of base sixteen. -/
def dig (c : Nat) : Nat := if 97 ≤ c then c - 87 else c - 48
def okLetter (c : Nat) : Bool := (48 ≤ c && c ≤ 57) || (97 ≤ c && c ≤ 102)
def hexFold : List Nat → Nat → Nat
  | [], n => n
  | c :: r, n => hexFold r (n * 16 + dig c)
/-- The word of a number in a text of base sixteen. -/
def hexAt (l : List Nat) (i : Nat) : Nat := hexFold ((l.drop (8 * i)).take 8) 0
def letters (s : ByteArray) : List Nat := s.data.toList.map (·.toNat)
end Go.Proofs.YtkonokjhpddbfaaDoor
namespace Go.Proofs.YtkonokjhpddbfaaDoor
open Go.RowKit
set_option linter.unusedVariables false

def w64 (l : List Nat) : List Value := l.map fun (x : Nat) => Value.int .u64 (x : Int)
/-- A slice of words that the call itself made. -/
def Own64 (w : World) (base : Nat) (v : Value) (l : List Nat) : Prop := w.ownsRow base 91 1 v l.length (w64 l)
theorem Own64.nil (w : World) (base : Nat) : Own64 w base (.slice none 0 0) [] := World.ownsRow_nil w base 91 1
theorem Own64.alloc {w : World} {base : Nat} {v : Value} {l : List Nat} (h : Own64 w base v l) (o : Obj) : Own64 (w.alloc o) base v l := World.ownsRow.alloc h o
theorem Own64.below {w w' : World} {base : Nat} {v : Value} {l : List Nat} (h : Own64 w base v l) (hB : Below w.heap.size w w') : Own64 w' base v l := by
  refine ⟨h.1, ?_⟩
  rcases h.2 with h1 | ⟨g, cap, cur, hv, hb, hg, rest⟩
  · exact .inl h1
  · have hlt : g < w.heap.size := by
      rcases Nat.lt_or_ge g w.heap.size with h2 | h2
      · exact h2
      · rw [Array.getElem?_eq_none h2] at hg; cases hg
    exact .inr ⟨g, cap, cur, hv, hb, (hB.block g hlt).trans hg, rest⟩
end Go.Proofs.YtkonokjhpddbfaaDoor
namespace Go.Proofs.YtkonokjhpddbfaaDoor
open Go.RowKit
set_option linter.unusedVariables false

theorem Own64.lower {w : World} {base base' : Nat} {v : Value} {l : List Nat} (h : Own64 w base v l) (hb : base' ≤ base) : Own64 w base' v l := by
  refine ⟨h.1, ?_⟩
  rcases h.2 with h1 | ⟨g, cap, cur, hv, hg, rest⟩
  · exact .inl h1
  · exact .inr ⟨g, cap, cur, hv, by omega, rest⟩
/-- The eight words, gone round. -/
def VRow (w : World) (g k z0 z1 z2 z3 z4 z5 z6 z7 : Nat) : Prop := ∀ p, p < 8 → w.cell? ⟨g, p, none⟩ = some (.int .u64 (([z0, z1, z2, z3, z4, z5, z6, z7].getD ((p + k) % 8) 0 : Nat) : Int)) ∧ w.frozen? ⟨g, p, none⟩ = false
section
variable {w : World} {g k z0 z1 z2 z3 z4 z5 z6 z7 : Nat}
theorem VRow.at0 (h : VRow w g k z0 z1 z2 z3 z4 z5 z6 z7) (p : Nat) (hp : p < 8) (e : (p + k) % 8 = 0) : w.cell? ⟨g, p, none⟩ = some (.int .u64 (z0 : Int)) := by have h1 := (h p hp).1; rw [e] at h1; exact h1
theorem VRow.at1 (h : VRow w g k z0 z1 z2 z3 z4 z5 z6 z7) (p : Nat) (hp : p < 8) (e : (p + k) % 8 = 1) : w.cell? ⟨g, p, none⟩ = some (.int .u64 (z1 : Int)) := by have h1 := (h p hp).1; rw [e] at h1; exact h1
theorem VRow.at2 (h : VRow w g k z0 z1 z2 z3 z4 z5 z6 z7) (p : Nat) (hp : p < 8) (e : (p + k) % 8 = 2) : w.cell? ⟨g, p, none⟩ = some (.int .u64 (z2 : Int)) := by have h1 := (h p hp).1; rw [e] at h1; exact h1
theorem VRow.at3 (h : VRow w g k z0 z1 z2 z3 z4 z5 z6 z7) (p : Nat) (hp : p < 8) (e : (p + k) % 8 = 3) : w.cell? ⟨g, p, none⟩ = some (.int .u64 (z3 : Int)) := by have h1 := (h p hp).1; rw [e] at h1; exact h1
theorem VRow.at4 (h : VRow w g k z0 z1 z2 z3 z4 z5 z6 z7) (p : Nat) (hp : p < 8) (e : (p + k) % 8 = 4) : w.cell? ⟨g, p, none⟩ = some (.int .u64 (z4 : Int)) := by have h1 := (h p hp).1; rw [e] at h1; exact h1
theorem VRow.at5 (h : VRow w g k z0 z1 z2 z3 z4 z5 z6 z7) (p : Nat) (hp : p < 8) (e : (p + k) % 8 = 5) : w.cell? ⟨g, p, none⟩ = some (.int .u64 (z5 : Int)) := by have h1 := (h p hp).1; rw [e] at h1; exact h1
theorem VRow.at6 (h : VRow w g k z0 z1 z2 z3 z4 z5 z6 z7) (p : Nat) (hp : p < 8) (e : (p + k) % 8 = 6) : w.cell? ⟨g, p, none⟩ = some (.int .u64 (z6 : Int)) := by have h1 := (h p hp).1; rw [e] at h1; exact h1
theorem VRow.at7 (h : VRow w g k z0 z1 z2 z3 z4 z5 z6 z7) (p : Nat) (hp : p < 8) (e : (p + k) % 8 = 7) : w.cell? ⟨g, p, none⟩ = some (.int .u64 (z7 : Int)) := by have h1 := (h p hp).1; rw [e] at h1; exact h1
end

theorem VRow.drewN {w : World} {g k z0 z1 z2 z3 z4 z5 z6 z7 : Nat} (h : VRow w g k z0 z1 z2 z3 z4 z5 z6 z7) (n : Nat) : VRow (w.drewN n) g k z0 z1 z2 z3 z4 z5 z6 z7 := h
/-- What a block's call is handed: words and a block's bytes, and the texts of the constants. -/
structure Handed (w : World) (gh oh gb ob : Nat) (hs bs : List Nat) (r : ByteArray) : Prop where
  hl : hs.length = 8
  hlt : ∀ x ∈ hs, x < 4294967296
  hb : gh < w.heap.size
  hc : ∀ i, i < 8 → w.cell? ⟨gh, oh + i, none⟩ = some (.int .u64 ((hs.getD i 0 : Nat) : Int))
  bl : bs.length = 64
  blt : ∀ x ∈ bs, x < 256
  bb : gb < w.heap.size
  bc : ∀ i, i < 64 → w.cell? ⟨gb, ob + i, none⟩ = some (.int .u8 ((bs.getD i 0 : Nat) : Int))
  rs : r.size = 8 * 64
  rl : ∀ c ∈ letters r, okLetter c = true
  rk : ∀ i, i < 64 → hexAt (letters r) i = kws.getD i 0
theorem Handed.below {w w' : World} {gh oh gb ob : Nat} {hs bs : List Nat} {r : ByteArray} (h : Handed w gh oh gb ob hs bs r) (hB : Below w.heap.size w w') : Handed w' gh oh gb ob hs bs r :=
  ⟨h.hl, h.hlt, Nat.lt_of_lt_of_le h.hb hB.size, fun i hi => by rw [hB.cell (p := ⟨gh, oh + i, none⟩) h.hb]; exact h.hc i hi, h.bl, h.blt, Nat.lt_of_lt_of_le h.bb hB.size, fun i hi => by rw [hB.cell (p := ⟨gb, ob + i, none⟩) h.bb]; exact h.bc i hi, h.rs, h.rl, h.rk⟩


theorem VRow.round {w : World} {g k z0 z1 z2 z3 z4 z5 z6 z7 : Nat} (h : VRow w g k z0 z1 z2 z3 z4 z5 z6 z7) : VRow w g (k + 1) z7 z0 z1 z2 z3 z4 z5 z6 := by
  intro q hq
  obtain ⟨h1, h2⟩ := h q hq
  refine ⟨?_, h2⟩
  rw [h1]
  have hl : (q + k) % 8 < 8 := by omega
  have he : (q + (k + 1)) % 8 = ((q + k) % 8 + 1) % 8 := by omega
  rw [he]
  revert hl
  generalize (q + k) % 8 = r
  intro hl
  match r, hl with
  | 0, _ | 1, _ | 2, _ | 3, _ | 4, _ | 5, _ | 6, _ | 7, _ => rfl
theorem VRow.below {w w' : World} {g k z0 z1 z2 z3 z4 z5 z6 z7 : Nat} (h : VRow w g k z0 z1 z2 z3 z4 z5 z6 z7) {B : Nat} (hb : Below B w w') (hg : g < B) : VRow w' g k z0 z1 z2 z3 z4 z5 z6 z7 := fun p hp => by
  rw [hb.cell (p := ⟨g, p, none⟩) hg, hb.frozen (p := ⟨g, p, none⟩) hg]
  exact h p hp

/-- Which place holds which word. -/
def Places (k p0 p1 p2 p3 p4 p5 p6 p7 : Nat) : Prop := p0 = (64 - k) % 8 ∧ p1 = (65 - k) % 8 ∧ p2 = (66 - k) % 8 ∧ p3 = (67 - k) % 8 ∧ p4 = (68 - k) % 8 ∧ p5 = (69 - k) % 8 ∧ p6 = (70 - k) % 8 ∧ p7 = (71 - k) % 8
theorem Places.lt {k p0 p1 p2 p3 p4 p5 p6 p7 : Nat} (h : Places k p0 p1 p2 p3 p4 p5 p6 p7) : p0 < 8 ∧ p1 < 8 ∧ p2 < 8 ∧ p3 < 8 ∧ p4 < 8 ∧ p5 < 8 ∧ p6 < 8 ∧ p7 < 8 := by
  unfold Places at h
  omega
theorem Places.at_ {k p0 p1 p2 p3 p4 p5 p6 p7 : Nat} (h : Places k p0 p1 p2 p3 p4 p5 p6 p7) (hk : k < 64) : (p0 + k) % 8 = 0 ∧ (p1 + k) % 8 = 1 ∧ (p2 + k) % 8 = 2 ∧ (p3 + k) % 8 = 3 ∧ (p4 + k) % 8 = 4 ∧ (p5 + k) % 8 = 5 ∧ (p6 + k) % 8 = 6 ∧ (p7 + k) % 8 = 7 := by
  unfold Places at h
  omega
theorem VRow.cells {w : World} {g k z0 z1 z2 z3 z4 z5 z6 z7 p0 p1 p2 p3 p4 p5 p6 p7 : Nat} (h : VRow w g k z0 z1 z2 z3 z4 z5 z6 z7) (hp : Places k p0 p1 p2 p3 p4 p5 p6 p7) (hk : k < 64) :
    w.cell? ⟨g, p0, none⟩ = some (.int .u64 (z0 : Int)) ∧ w.cell? ⟨g, p1, none⟩ = some (.int .u64 (z1 : Int)) ∧ w.cell? ⟨g, p2, none⟩ = some (.int .u64 (z2 : Int)) ∧ w.cell? ⟨g, p3, none⟩ = some (.int .u64 (z3 : Int)) ∧ w.cell? ⟨g, p4, none⟩ = some (.int .u64 (z4 : Int)) ∧ w.cell? ⟨g, p5, none⟩ = some (.int .u64 (z5 : Int)) ∧ w.cell? ⟨g, p6, none⟩ = some (.int .u64 (z6 : Int)) ∧ w.cell? ⟨g, p7, none⟩ = some (.int .u64 (z7 : Int)) := by
  obtain ⟨l0, l1, l2, l3, l4, l5, l6, l7⟩ := hp.lt
  obtain ⟨e0, e1, e2, e3, e4, e5, e6, e7⟩ := hp.at_ hk
  exact ⟨h.at0 p0 l0 e0, h.at1 p1 l1 e1, h.at2 p2 l2 e2, h.at3 p3 l3 e3, h.at4 p4 l4 e4, h.at5 p5 l5 e5, h.at6 p6 l6 e6, h.at7 p7 l7 e7⟩
end Go.Proofs.YtkonokjhpddbfaaDoor
namespace Go.Proofs.YtkonokjhpddbfaaDoor
open Go.RowKit
set_option linter.unusedVariables false

end Go.Proofs.YtkonokjhpddbfaaDoor
namespace Go.Proofs.YtkonokjhpddbfaaDoor
open Go.RowKit
set_option linter.unusedVariables false

/-- What is left of the words while their bytes are taken off. -/
def left (ws : List Nat) (m j : Nat) : Nat := ws.getD j 0 / 256 ^ (min 4 (m - 4 * (7 - j)))
theorem left_same (ws : List Nat) (m : Nat) (hm : m < 32) : left ws (m + 1) ((31 - m) / 4) = left ws m ((31 - m) / 4) / 256 := by
  unfold left
  have e : min 4 (m + 1 - 4 * (7 - (31 - m) / 4)) = min 4 (m - 4 * (7 - (31 - m) / 4)) + 1 := by omega
  rw [e, Nat.pow_succ, Nat.div_div_eq_div_mul]
theorem left_other (ws : List Nat) (m j : Nat) (hm : m < 32) (hj : j < 8) (hne : j ≠ (31 - m) / 4) : left ws (m + 1) j = left ws m j := by
  unfold left
  have e : min 4 (m + 1 - 4 * (7 - j)) = min 4 (m - 4 * (7 - j)) := by omega
  rw [e]
/-- A row of eight words, by a function. -/
def HRow (w : World) (g : Nat) (f : Nat → Nat) : Prop := ∀ j, j < 8 → w.cell? ⟨g, j, none⟩ = some (.int .u64 ((f j : Nat) : Int)) ∧ w.frozen? ⟨g, j, none⟩ = false
theorem HRow.set {w : World} {g : Nat} {ws : List Nat} {m : Nat} (h : HRow w g (left ws m)) (hm : m < 32) (y : Nat) (hy : y = left ws m ((31 - m) / 4) / 256) : HRow (w.setCell ⟨g, (31 - m) / 4, none⟩ (.int .u64 (y : Int))) g (left ws (m + 1)) := by
  intro q hq
  obtain ⟨h1, h2⟩ := h q hq
  rcases Nat.decEq ((31 - m) / 4) q with hne | heq
  · rw [World.cell?_setCell_other _ _ _ _ (by intro h; injection h; omega), World.frozen?_setCell]
    exact ⟨by rw [h1, left_other ws m q hm hq (by omega)], h2⟩
  · subst heq
    rw [World.cell?_setCell_same _ _ _ h1, World.frozen?_setCell, left_same ws m hm, hy]
    exact ⟨rfl, h2⟩
theorem HRow.far {w : World} {g : Nat} {f : Nat → Nat} (h : HRow w g f) {p : Addr} (hp : p.block ≠ g) (v : Value) : HRow (w.setCell p v) g f := fun j hj => by
  rw [World.cell?_setCell_far _ _ _ _ hp, World.frozen?_setCell]
  exact h j hj
theorem HRow.alloc {w : World} {g : Nat} {f : Nat → Nat} (h : HRow w g f) (o : Obj) (hg : g < w.heap.size) : HRow (w.alloc o) g f := fun j hj => by
  have hb := (Below.refl w.heap.size w).alloc (Nat.le_refl _) o
  rw [hb.cell (p := ⟨g, j, none⟩) hg, hb.frozen (p := ⟨g, j, none⟩) hg]
  exact h j hj

/-- The texts of the constants. -/
structure Texts (f r : ByteArray) : Prop where
  fs : f.size = 8 * 8
  fl : ∀ c ∈ letters f, okLetter c = true
  fk : ∀ i, i < 8 → hexAt (letters f) i = firsts.getD i 0
  rs : r.size = 8 * 64
  rl : ∀ c ∈ letters r, okLetter c = true
  rk : ∀ i, i < 64 → hexAt (letters r) i = kws.getD i 0
end Go.Proofs.YtkonokjhpddbfaaDoor
namespace Go.Proofs.YtkonokjhpddbfaaDoor
open Go.RowKit
set_option linter.unusedVariables false

theorem cutLo (A : Option Addr) (L c h : Nat) (hh : h ≤ c) (W : World) : (Instr.slice 30 (.slice A L c) none (some (.int .i64 (h : Int))) none).run Tryd.prog W = .ok (.slice A h c) W := by
  obtain ⟨i0, hi, hz0, hz1, hz2⟩ := info_parts byte_info
  rw [run_slice_h (P := Tryd.prog) W 30 A L c (by kernel_rfl) .i64 (h : Int) (by omega) (by omega), show Tryd.prog.elem 30 = 5 by kernel_rfl]
  cases A <;> simp [sizeOf, typeInfo, hi, sliced, Addr.add]
def cutPlace (o c h : Nat) : Nat := if c = h then o else o + h
theorem cutHi (g o L c h : Nat) (hh : h ≤ L) (hc : L ≤ c) (W : World) : (Instr.slice 30 (.slice (some ⟨g, o, none⟩) L c) (some (.int .i64 (h : Int))) none none).run Tryd.prog W = .ok (.slice (some ⟨g, cutPlace o c h, none⟩) (L - h) (c - h)) W := by
  obtain ⟨i0, hi, hz0, hz1, hz2⟩ := info_parts byte_info
  rw [run_slice_l (P := Tryd.prog) W 30 _ L c (by kernel_rfl) .i64 (h : Int) (by omega) (by omega), show Tryd.prog.elem 30 = 5 by kernel_rfl]
  by_cases e : c = h <;> simp [sizeOf, typeInfo, hi, hz1, sliced, cutPlace, e, Addr.add_mid]
/-- Bytes at a block's beginning. -/
def BCells (w : World) (g N : Nat) (P : List Nat) : Prop := ∀ i, i < N → w.cell? ⟨g, i, none⟩ = some (.int .u8 ((P.getD i 0 : Nat) : Int))
theorem BCells.below {w w' : World} {g N B : Nat} {P : List Nat} (h : BCells w g N P) (hb : Below B w w') (hg : g < B) : BCells w' g N P := fun i hi => (hb.cell (p := ⟨g, i, none⟩) hg).trans (h i hi)
theorem BCells.far {w : World} {g N : Nat} {P : List Nat} (h : BCells w g N P) {a : Addr} (ha : a.block ≠ g) (v : Value) : BCells (w.setCell a v) g N P := fun i hi => (World.cell?_setCell_far _ _ _ _ ha).trans (h i hi)
end Go.Proofs.YtkonokjhpddbfaaDoor
namespace Go.Proofs.YtkonokjhpddbfaaDoor
open Go.RowKit
set_option linter.unusedVariables false

end Go.Proofs.YtkonokjhpddbfaaDoor
namespace Go.Proofs.YtkonokjhpddbfaaDoor
open Go.RowKit
set_option linter.unusedVariables false

theorem Blk.setCells {g : Nat} {t : TypeId} : ∀ (vs : List Value) (w : World) (pre old : List Value), old.length = vs.length → Blk w g t (pre ++ old) → Blk (w.setCells g pre.length vs) g t (pre ++ vs)
  | [], w, pre, old, hl, h => by
    have : old = [] := List.eq_nil_of_length_eq_zero (by simpa using hl)
    subst this
    exact h
  | v :: r, w, pre, [], hl, h => by simp at hl
  | v :: r, w, pre, x :: old, hl, h => by
    have h1 := h.set_ pre.length v
    rw [List.set_append_right _ _ (Nat.le_refl _), Nat.sub_self, List.set_cons_zero] at h1
    have h2 := Blk.setCells r (w.setCell ⟨g, pre.length, none⟩ v) (pre ++ [v]) old (by simpa using hl) (by simpa using h1)
    simp only [List.length_append, List.length_cons, List.length_nil, List.append_assoc, List.cons_append, List.nil_append] at h2
    exact h2
end Go.Proofs.YtkonokjhpddbfaaDoor
namespace Go.Proofs.YtkonokjhpddbfaaDoor
open Go.RowKit
set_option linter.unusedVariables false

/-- Bytes that came in. -/
structure CameB (W : World) (A : Option Addr) (c n : Nat) (l : List Nat) : Prop where
  src : Src W W.heap.size A c l
  len : l.length = n
  cap : c ≤ 9223372036854775807

end Go.Proofs.YtkonokjhpddbfaaDoor
